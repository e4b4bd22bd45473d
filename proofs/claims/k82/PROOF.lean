import PyProof.Rows.All
import Wide.All
import OpenK.AllK
import Wide.FinOn
import HandS.ForMost
import HandS.Evl
import HandS.Wide
import HandS.WideBits
import HandS.IsInst
import KE.KEqDeep
import KE.KMinKey
import HandS.Codes
import HandS.OwnEq
import PyProof.InstNe
import HandS.MakeKwOnly
import HandS.SortKw
import HandS.Defaults
import HandS.Exc
import HandS.TryOnly
import HandS.TryMany
import HandS.ExcOwn
import HandS.WordsExc
import HandS.More
import HandS.Lambda
import KE.KExcIs
import HandS.HotCalls
import HandS.ExcInit
import KE.KExcInit
import HandS.Walk
import HandS.Flow
import HandS.Style
import HandS.Star
import HandS.Iter
import PyProof.ReprRoads
import HandS.EndTab
import KE.DataFind
import HandS.SetFor
import HandS.Strs
import HandS.SortInts
import HandS.Conv
import HandS.SetKeys
import KE.DataMinMax
import KE.SortData
import HandS.NoneIn
import HandS.DictComp
import PySem.Challenge.RW_retryslots_k82_whole_short_lists_as_rule
set_option Elab.async false
set_option maxRecDepth 100000
set_option maxHeartbeats 2000000
namespace RS
open PySem L2
def top (i : Nat) : Stmt := PySem.Challenge.pw_retryslots_k82_whole_short_lists_as_rule.main.body.getD i (.Pass ⟨0, 0, 0, 0⟩)
abbrev s_wall : Stmt := top 1
abbrev s_InvalidRule_ddinitdd : Stmt := inClass (top 4) 0
abbrev s_InvalidAttempt_ddinitdd : Stmt := inClass (top 5) 0
abbrev s_InvalidSlot_ddinitdd : Stmt := inClass (top 6) 0
abbrev s_InvalidBound_ddinitdd : Stmt := inClass (top 7) 0
abbrev s_LimitExceeded_ddinitdd : Stmt := inClass (top 8) 0
abbrev s_is_integer : Stmt := top 10
abbrev s_check_bound : Stmt := top 13
abbrev s_are_gaps : Stmt := top 14
abbrev s_sums : Stmt := top 16
abbrev s_listed_offsets : Stmt := top 17
abbrev s_single_offsets : Stmt := top 18
abbrev s_offsets_beyond : Stmt := top 19
abbrev s_is_spread_list : Stmt := top 26
abbrev s_next_gaps : Stmt := top 27
abbrev s_extended : Stmt := top 28
abbrev s_spread_lists : Stmt := top 29
abbrev s_shortest : Stmt := top 30
abbrev s_Search_ddinitdd : Stmt := inClass (top 31) 0
abbrev s_Search_found : Stmt := inClass (top 31) 1
abbrev s_Search_extend_by : Stmt := inClass (top 31) 2
abbrev s_Search_keep : Stmt := inClass (top 31) 3
abbrev s_choices : Stmt := top 32
abbrev s_with_taken : Stmt := top 33
abbrev s_check_spread : Stmt := top 34
abbrev s_check_room : Stmt := top 35
abbrev s_differences : Stmt := top 36
abbrev s_ways_back : Stmt := top 37
abbrev s_fits : Stmt := top 38
abbrev s_least_gap : Stmt := top 39
abbrev s_is_spread : Stmt := top 41
abbrev s_first_repetition : Stmt := top 42
abbrev s_shared_attempts : Stmt := top 43
abbrev s_count_distances : Stmt := top 44
abbrev s_check_distance : Stmt := top 45
abbrev s_reaching : Stmt := top 46
abbrev s_reaching_repeated : Stmt := top 47
abbrev s_telling_offsets : Stmt := top 48
abbrev s_fewest_repeating : Stmt := top 49
abbrev s_pairs_by_difference : Stmt := top 50
abbrev s_count_growing : Stmt := top 51
abbrev s_count_repeating : Stmt := top 52
abbrev s_least_by_residue : Stmt := top 53
abbrev s_Rule_ddinitdd : Stmt := inClass (top 58) 0
abbrev s_Rule_ddeqdd : Stmt := inClass (top 58) 1
abbrev s_Rule_gaps : Stmt := inClass (top 58) 2
abbrev s_Rule_tail : Stmt := inClass (top 58) 3
abbrev s_Rule_attempts : Stmt := inClass (top 58) 4
abbrev s_Rule_gap : Stmt := inClass (top 58) 5
abbrev s_Rule_offset : Stmt := inClass (top 58) 6
abbrev s_Rule_first_from : Stmt := inClass (top 58) 7
abbrev s_Rule_attempt_at : Stmt := inClass (top 58) 8
abbrev s_Rule_period : Stmt := inClass (top 58) 9
abbrev s_Rule_least_gap : Stmt := inClass (top 58) 10
abbrev s_Rule_first_repeating : Stmt := inClass (top 58) 11
abbrev s_Rule_offsets_between : Stmt := inClass (top 58) 12
abbrev s_Rule_check_attempt : Stmt := inClass (top 58) 13
abbrev s_Rule_offset_of : Stmt := inClass (top 58) 14
abbrev s_Rule_first_growing : Stmt := inClass (top 58) 15
abbrev s_Rule_surely_short : Stmt := inClass (top 58) 16
abbrev s_Rule_first_repeated : Stmt := inClass (top 58) 17
abbrev s_is_tail : Stmt := top 59
abbrev s_first_at_least : Stmt := top 60
abbrev s_power : Stmt := top 61
abbrev s_law_source_of : Stmt := top 63
abbrev s_law_next : Stmt := top 64
abbrev s_law_one : Stmt := top 65
abbrev s_law_cell_at : Stmt := top 66
abbrev s_law : Stmt := top 67
/-! ### what the walk asks of the text's top -/
structure Txt (K : PySem.W.Frag) (mg : Str → Option Value) (C : Addr) : Prop where
  cl : Cls K C
  nG : NoAttr K C "_gaps"
  nT : NoAttr K C "_tail"
  nO : NoAttr K C "_offsets"
  mgC : mg "Rule" = some (.ref C)
  len : mg "len" = none
  isi : mg "isinstance" = none
  int : mg "int" = none
  bool : mg "bool" = none
  list : mg "list" = none
  tuple : mg "tuple" = none
  str : mg "str" = none
  all : mg "all" = none
  range : mg "range" = none
  divmod : mg "divmod" = none
  sum : mg "sum" = none
  max : mg "max" = none
  min : mg "min" = none
  sorted : mg "sorted" = none
  set : mg "set" = none
  any : mg "any" = none
  enum : mg "enumerate" = none
  mMost : ∃ t, mg "MOST_GAPS_rules" = some (.int 20 t)
  mLong : ∃ t, mg "_LONGEST_GAP" = some (.int 1000000000000 t)
  mFact : ∃ t, mg "_GREATEST_FACTOR" = some (.int 1000 t)
  mLast : ∃ t, mg "LAST_GROWING" = some (.int 1000 t)

/-! ### the data -/
/-- a rule's tail -/
inductive Tl where
  | fin
  | times (b : Int)
  | rep (n : Nat)
def Tl.vs : Tl → List V
  | .fin => [.str "end"]
  | .times b => [.str "times", .int b]
  | .rep n => [.str "repeat", .int (n : Int)]
def GapsOk (gs : List Int) : Prop := gs.length ≤ 20 ∧ ∀ g ∈ gs, 1 ≤ g ∧ g ≤ 1000000000000
def TlOk (many : Nat) : Tl → Prop
  | .fin => True
  | .times b => 0 < many ∧ 2 ≤ b ∧ b ≤ 1000
  | .rep n => 1 ≤ n ∧ n ≤ many
/-- the sum of the first k gaps -/
def pre (gs : List Int) (k : Nat) : Int := (gs.take k).sum
def offs (gs : List Int) : List Int := (List.range (gs.length + 1)).map (pre gs)
theorem offs_len (gs : List Int) : (offs gs).length = gs.length + 1 := by simp [offs]
theorem offs_get (gs : List Int) {k : Nat} (h : k ≤ gs.length) : (offs gs)[k]? = some (pre gs k) := by
  unfold offs
  rw [List.getElem?_map, List.getElem?_range (by omega)]
  rfl
theorem pre_zero (gs : List Int) : pre gs 0 = 0 := rfl
theorem pre_succ (gs : List Int) {k : Nat} {g : Int} (h : gs[k]? = some g) : pre gs (k + 1) = pre gs k + g := by
  unfold pre
  rw [List.take_add_one, h, List.sum_append]
  simp
theorem iteFb {b : Bool} {A B : Prop} (e : b = false) (h : B) : if b = true then A else B := by
  rw [e]
  exact iteF h
theorem iteTb {b : Bool} {A B : Prop} (e : b = true) (h : A) : if b = true then A else B := by
  rw [e]
  exact iteT h
theorem yes_t {Q : Bool → Hp → Prop} {σ : L2.St} {H : Hp} (h : Q true H) : tYes σ H Q := h
theorem at_map {xs : List Int} {j : Nat} {v : Int} (h : xs[j]? = some v) : atI (xs.map V.int) (j : Int) = some (.int v) := atI_nat (by rw [List.getElem?_map, h]; rfl)
theorem at_back {α : Type} {xs : List α} {j : Nat} {v : α} (h0 : 0 < j) (hj : j ≤ xs.length) (h : xs[xs.length - j]? = some v) : atI xs (-(j : Int)) = some v := by
  have e : ixN xs.length (-(j : Int)) = some (xs.length - j) := by
    unfold ixN
    rw [if_neg (by omega), if_pos (by omega)]
    congr 1
    omega
  unfold atI
  rw [e]
  exact h
theorem at_back1 {α : Type} {xs : List α} {v : α} (hj : 0 < xs.length) (h : xs[xs.length - 1]? = some v) : atI xs (-1) = some v := at_back (j := 1) (by omega) hj h

section
variable {P : Program} {w : World} {K : PySem.W.Frag} {mg : Str → Option Value} {base : Heap}
/-! ### is_integer -/
def spIsInt : Sp := fun vs H Q _ => ∃ i, vs = [.int i] ∧ Q (.bl true) H
theorem scIsInt : FnScope ["value"] ["value"] (defScope s_is_integer) := ⟨rfl, rfl, rfl, by decide +kernel, rfl, by decide +kernel, by decide +kernel⟩
theorem ok_isInt {f C : Addr} {fd : FuncData} (F : Fun K "is_integer" "is_integer" s_is_integer f fd) (T : Txt K mg C) : FnOk P w K mg base CX0 1 f fd ["value"] spIsInt := by
  refine F.ok scIsInt (fun vs H Q E h => ?_) (fun cdv A outer s H vs Q E hr h => ?_)
  · obtain ⟨i, rfl, _⟩ := h
    rfl
  · obtain ⟨i, rfl, k⟩ := h
    refine ⟨_, pss_one (ps_ret (pe_and (pe_callB call_isi (by rfl) T.isi (by decide +kernel) (pa_cons (pv 0) (pa_cons (pe_bltn (v := .ty "int") (by rfl) T.int (by decide +kernel) rfl) pa_nil))) (pe_one (pe_not (pe_callB call_isi (by rfl) T.isi (by decide +kernel) (pa_cons (pv 0) (pa_cons (pe_bltn (v := .ty "bool") (by rfl) T.bool (by decide +kernel) rfl) pa_nil))))))), ?_⟩
    refine ⟨_, rfl, _, _, _, _, _, rfl, .ty _, .base (.int i), kit_ty (r := true) (by decide +kernel), true, rfl, ?_⟩
    refine iteT ?_
    exact ⟨_, rfl, _, _, _, _, _, rfl, .ty _, .base (.int i), kit_ty (r := false) (by decide +kernel), false, rfl, k⟩

/-! ### _are_gaps -/
def spAreGaps : Sp := fun vs H Q _ => ∃ a gs, ∃ most : Nat, vs = [.ref a, .int (most : Int)] ∧ H a = some (.lst (gs.map V.int)) ∧ GapsOk gs ∧ gs.length ≤ most ∧ ∀ H', Same H H' → Q (.bl true) H'
theorem scAreGaps : FnScope ["value", "most", "gap"] ["value", "most"] (defScope s_are_gaps) := ⟨rfl, rfl, rfl, by decide +kernel, rfl, by decide +kernel, by decide +kernel⟩
theorem ok_areGaps {f C fi : Addr} {fd fdi : FuncData} (F : Fun K "are_gaps" "are_gaps" s_are_gaps f fd) (T : Txt K mg C) (FI : Fun K "is_integer" "is_integer" s_is_integer fi fdi) (bI : Binds K fdi ["value"] []) (mI : mg "is_integer" = some (.ref fi)) : FnOk P w K mg base CX0 2 f fd ["value", "most"] spAreGaps := by
  have GI : FnOk P w K mg base CX0 1 fi fdi ["value"] spIsInt := ok_isInt FI T
  obtain ⟨t2, m2⟩ := T.mLong
  refine F.ok scAreGaps (fun vs H Q E h => ?_) (fun cdv A outer s H vs Q E hr h => ?_)
  · obtain ⟨a, gs, most, rfl, _⟩ := h
    rfl
  · obtain ⟨a, gs, most, rfl, ha, ok, okm, k⟩ := h
    refine ⟨_, (pss_cons (ps_if (PW.pt (pw_or (pt_not (pt_val (pe_callB call_isi (by rfl) T.isi (by decide +kernel) (pa_cons (pv 0) (pa_cons (pe_bltn (v := .ty "list") (by rfl) T.list (by decide +kernel) rfl) pa_nil))))) (pw_or1 (pt_cmpR op_gt (pe_callB call_len_seq (by rfl) T.len (by decide +kernel) (pa_cons (pv 0) pa_nil)) (pv 1) (nomark _))))) (pss_one (ps_ret pe_bl)) pss_nil) (pss_one (ps_ret (pe_callB (cr_all rfl) (by rfl) T.all (by decide +kernel) (pa_cons (pe_lc (own := [("gap", 2)]) (g := gName 2) (tt := tYes) rfl scAreGaps.nd (pi_list (pv 0)) (blkOk_by (own := [("gap", 2)]) (N := ["value", "most", "gap"]) (sc := defScope s_are_gaps) (by decide +kernel))
          (fun _ _ _ _ _ => (pg_name (i := 2) scAreGaps.nd rfl (Or.inl rfl))) (fun _ _ _ _ _ => pts_nil)
          (fun _ _ _ _ _ => pe_and (pe_call GI hr rfl mI FI.kp bI .nil pass0 (pa_cons (pv 2) pa_nil)) (pe_one (pe_chain op_le op_le pe_int (pv 2) (pe_glob (v := .int 1000000000000) rfl m2 ⟨_, rfl⟩))))) pa_nil))))), ?_⟩
    refine ⟨_, rfl, _, _, _, _, _, rfl, .ty _, .base (.lst ha), kit_ty (r := true) (by decide +kernel), true, rfl, ?_⟩
    refine iteF ?_
    refine ⟨_, rfl, a, _, rfl, .inl (SqL.of ha), _, rfl, _, _, rfl, rfl, _, rfl, ?_⟩
    refine iteFb (decide_eq_false (by rw [List.length_map]; omega)) ?_
    refine ⟨_, rfl, a, rfl, ⟨_, SqL.of ha⟩, fun D hD => lc_list (a := a) (xs := gs.map V.int) (fun i H' => Same H H' ∧ H' D = some (.lst ((List.replicate i true).map V.bl))) ⟨?_, upd_same⟩ (fun i H' _ p => p.1.seq (SqL.of ha)) (fun i x H' hx p => ?_) (fun H' p => ?_)⟩
    · intro b o e
      rw [upd_ne (ne_of_none e hD)]
      exact e
    · obtain ⟨g, hg, rfl⟩ : ∃ g, gs[i]? = some g ∧ x = .int g := by
        rw [List.getElem?_map] at hx
        cases e : gs[i]? with
        | none => rw [e] at hx; cases hx
        | some g => rw [e] at hx; exact ⟨g, rfl, (Option.some.inj hx).symm⟩
      have hb := ok.2 g (List.mem_of_getElem? hg)
      have hi : i < gs.length := (List.getElem?_eq_some_iff.mp hg).1
      refine ⟨rfl, ?_⟩
      refine yes_t (iteT ?_)
      refine ⟨_, rfl, g, rfl, true, rfl, iteT ?_⟩
      refine ⟨_, rfl, _, _, rfl, rfl, _, rfl, iteTb (decide_eq_true hb.1) ?_⟩
      refine ⟨_, _, rfl, rfl, _, p.2, ?_, fun b o e => ?_, ?_⟩
      · rw [List.length_map, List.length_replicate]
        exact small1000 (by have := ok.1; omega)
      · rw [upd_ne (ne_of_none e hD)]
        exact p.1 b o e
      · rw [upd_same, List.replicate_succ', List.map_append]
        show some (HO.lst (List.map V.bl (List.replicate i true) ++ [V.bl (decide (g ≤ 1000000000000))])) = _
        rw [decide_eq_true hb.2]
        rfl
    · refine ⟨D, _, rfl, SqL.of p.2, ?_⟩
      have e : (List.replicate (gs.map V.int).length true).all id = true := by
        rw [List.all_eq_true]
        intro x hx
        rw [(List.mem_replicate.mp hx).2]
        rfl
      rw [e]
      exact k H' p.1

/-! ### _is_tail -/
def spIsTail : Sp := fun vs H Q _ => ∃ (t : Addr) (tl : Tl) (n : Nat), vs = [.ref t, .int (n : Int)] ∧ H t = some (.tup tl.vs) ∧ TlOk n tl ∧ ∀ H', Same H H' → Q (.bl true) H'
theorem scIsTail : FnScope ["value", "many"] ["value", "many"] (defScope s_is_tail) := ⟨rfl, rfl, rfl, by decide +kernel, rfl, by decide +kernel, by decide +kernel⟩
theorem same_new {H : Hp} {p : Addr} {o : HO} (h : H p = none) : Same H (upd H p o) := fun b u e => by
  rw [upd_ne (ne_of_none e h)]
  exact e
theorem ok_isTail {f C fi : Addr} {fd fdi : FuncData} (F : Fun K "_is_tail" "_is_tail" s_is_tail f fd) (T : Txt K mg C) (FI : Fun K "is_integer" "is_integer" s_is_integer fi fdi) (bI : Binds K fdi ["value"] []) (mI : mg "is_integer" = some (.ref fi)) : FnOk P w K mg base CX0 2 f fd ["value", "many"] spIsTail := by
  have GI : FnOk P w K mg base CX0 1 fi fdi ["value"] spIsInt := ok_isInt FI T
  obtain ⟨t1, m1⟩ := T.mFact
  refine F.ok scIsTail (fun vs H Q E h => ?_) (fun cdv A outer s H vs Q E hr h => ?_)
  · obtain ⟨t, tl, n, rfl, _⟩ := h
    rfl
  · obtain ⟨t, tl, n, rfl, ht, ok, k⟩ := h
    refine ⟨_, (pss_cons (ps_if (PW.pt (pw_or (pt_not (pt_val (pe_callB call_isi (by rfl) T.isi (by decide +kernel) (pa_cons (pv 0) (pa_cons (pe_bltn (v := .ty "tuple") (by rfl) T.tuple (by decide +kernel) rfl) pa_nil))))) (pw_or1 (pt_cmpR op_notIn_seq (pe_callB call_len_seq (by rfl) T.len (by decide +kernel) (pa_cons (pv 0) pa_nil)) (pe_tup (pa_cons pe_int (pa_cons pe_int pa_nil))) (by rfl))))) (pss_one (ps_ret pe_bl)) pss_nil) (pss_cons (ps_if (pt_not (pt_val (pe_callB call_isi (by rfl) T.isi (by decide +kernel) (pa_cons (pe_ix ix_tup (pv 0) pe_int (fun _ _ => rfl)) (pa_cons (pe_bltn (v := .ty "str") (by rfl) T.str (by decide +kernel) rfl) pa_nil))))) (pss_one (ps_ret pe_bl)) pss_nil) (pss_cons (ps_if (pt_cmpR op_eq (pe_callB call_len_seq (by rfl) T.len (by decide +kernel) (pa_cons (pv 0) pa_nil)) pe_int (nomark _)) (pss_one (ps_ret (pe_cmpR op_eq (pe_ix ix_tup (pv 0) pe_int (fun _ _ => rfl)) pe_str (nomark _)))) pss_nil) (pss_cons (ps_if (pt_not (pt_val (pe_call GI hr rfl mI FI.kp bI .nil pass0 (pa_cons (pe_ix ix_tup (pv 0) pe_int (fun _ _ => rfl)) pa_nil)))) (pss_one (ps_ret pe_bl)) pss_nil) (pss_cons (ps_if (pt_cmpR op_eq (pe_ix ix_tup (pv 0) pe_int (fun _ _ => rfl)) pe_str (nomark _)) (pss_one (ps_ret (pe_and (pe_cmpR op_gt (pv 1) pe_int (nomark _)) (pe_one (pe_chain op_le op_le pe_int (pe_ix ix_tup (pv 0) pe_int (fun _ _ => rfl)) (pe_glob (v := .int 1000) rfl m1 ⟨_, rfl⟩)))))) pss_nil) (pss_one (ps_ret (pe_and (pe_cmpR op_eq (pe_ix ix_tup (pv 0) pe_int (fun _ _ => rfl)) pe_str (nomark _)) (pe_one (pe_chain op_le op_le pe_int (pe_ix ix_tup (pv 0) pe_int (fun _ _ => rfl)) (pv 1))))))))))), ?_⟩
    refine ⟨_, rfl, _, _, _, _, _, rfl, .ty _, .base (.tup ht), kit_ty (r := true) (by decide +kernel), true, rfl, ?_⟩
    refine iteF ?_
    refine ⟨_, rfl, t, _, rfl, .inr (SqT.of ht), by show 2 ≤ sizeLine; decide, fun q hq => ?_⟩
    have hS : Same H (upd H q (.tup [.int 1, .int 2])) := same_new hq
    have ht2 := hS t _ ht
    refine ⟨q, _, rfl, .inr (SqT.of upd_same), rfl, rfl, _, rfl, ?_⟩
    cases tl with
    | fin =>
      refine iteFb (by decide +kernel) ?_
      refine ⟨_, rfl, t, _, _, _, rfl, rfl, SqT.of ht2, atI_nat (j := 0) rfl, _, _, _, _, _, rfl, .ty _, .base (.str _), kit_ty (r := true) (by decide +kernel), true, rfl, iteF ?_⟩
      refine ⟨_, rfl, t, _, rfl, .inr (SqT.of ht2), rfl, _, rfl, iteTb (by decide +kernel) ?_⟩
      refine ⟨_, rfl, t, _, _, _, rfl, rfl, SqT.of ht2, atI_nat (j := 0) rfl, rfl, ?_⟩
      exact k _ hS
    | times b =>
      refine iteFb (by show (!inV (V.int 2) [V.int 1, V.int 2]) = false; decide +kernel) ?_
      refine ⟨_, rfl, t, _, _, _, rfl, rfl, SqT.of ht2, atI_nat (j := 0) rfl, _, _, _, _, _, rfl, .ty _, .base (.str _), kit_ty (r := true) (by decide +kernel), true, rfl, iteF ?_⟩
      refine ⟨_, rfl, t, _, rfl, .inr (SqT.of ht2), rfl, _, rfl, iteFb (by show decide (V.int 2 = V.int 1) = false; decide +kernel) ?_⟩
      refine ⟨_, rfl, t, _, _, _, rfl, rfl, SqT.of ht2, atI_nat (j := 1) rfl, b, rfl, true, rfl, iteF ?_⟩
      refine ⟨_, rfl, t, _, _, _, rfl, rfl, SqT.of ht2, atI_nat (j := 0) rfl, rfl, _, rfl, iteTb (by decide +kernel) ?_⟩
      refine ⟨_, rfl, _, _, rfl, rfl, _, rfl, iteTb (decide_eq_true (by have := ok.1; omega)) ?_⟩
      refine ⟨_, rfl, t, _, _, _, rfl, rfl, SqT.of ht2, atI_nat (j := 1) rfl, _, _, rfl, rfl, _, rfl, iteTb (decide_eq_true ok.2.1) ?_⟩
      refine ⟨_, _, rfl, rfl, ?_⟩
      show Q (.bl (decide (b ≤ 1000))) _
      rw [decide_eq_true ok.2.2]
      exact k _ hS
    | rep m =>
      refine iteFb (by show (!inV (V.int 2) [V.int 1, V.int 2]) = false; decide +kernel) ?_
      refine ⟨_, rfl, t, _, _, _, rfl, rfl, SqT.of ht2, atI_nat (j := 0) rfl, _, _, _, _, _, rfl, .ty _, .base (.str _), kit_ty (r := true) (by decide +kernel), true, rfl, iteF ?_⟩
      refine ⟨_, rfl, t, _, rfl, .inr (SqT.of ht2), rfl, _, rfl, iteFb (by show decide (V.int 2 = V.int 1) = false; decide +kernel) ?_⟩
      refine ⟨_, rfl, t, _, _, _, rfl, rfl, SqT.of ht2, atI_nat (j := 1) rfl, _, rfl, true, rfl, iteF ?_⟩
      refine ⟨_, rfl, t, _, _, _, rfl, rfl, SqT.of ht2, atI_nat (j := 0) rfl, rfl, _, rfl, iteFb (by decide +kernel) ?_⟩
      refine ⟨_, rfl, t, _, _, _, rfl, rfl, SqT.of ht2, atI_nat (j := 0) rfl, rfl, true, by decide +kernel, iteT ?_⟩
      refine ⟨_, rfl, t, _, _, _, rfl, rfl, SqT.of ht2, atI_nat (j := 1) rfl, _, _, rfl, rfl, _, rfl, iteTb (decide_eq_true (by have := ok.1; omega)) ?_⟩
      refine ⟨_, rfl, _, _, rfl, rfl, ?_⟩
      show Q (.bl (decide (((m : Nat) : Int) ≤ (n : Int)))) _
      rw [decide_eq_true (show ((m : Nat) : Int) ≤ (n : Int) by have := ok.2; omega)]
      exact k _ hS
end
end RS
/-! ### comprehensions that only make values -/
namespace L2
open PySem PySem.Spec PyProof.Rows
/-- what the first i turns have made -/
def selTo (sel : Nat → Option V) (i : Nat) : List V := (List.range i).filterMap sel
theorem selTo_succ (sel : Nat → Option V) (i : Nat) : selTo sel (i + 1) = selTo sel i ++ (sel i).toList := by
  unfold selTo
  rw [List.range_succ, List.filterMap_append]
  cases h : sel i <;> simp [h]
theorem selTo_le (sel : Nat → Option V) (i : Nat) : (selTo sel i).length ≤ i := by
  unfold selTo
  have := List.length_filterMap_le sel (List.range i)
  rw [List.length_range] at this
  exact this
theorem selTo_get (ys : List V) : ∀ i, i ≤ ys.length → selTo (fun j : Nat => ys[j]?) i = ys.take i
  | 0, _ => rfl
  | i + 1, h => by
    rw [selTo_succ, selTo_get ys i (by omega), List.take_add_one]
theorem same_app {H1 H : Hp} {D : Addr} {o : HO} (hD : H1 D = none) (S : Same H1 H) : Same H1 (upd H D o) := fun b u e => by
  rw [upd_ne (ne_of_none e hD)]
  exact S b u e
theorem small_line {n : Nat} (h : n ≤ 100000) : n < sizeLine := Nat.lt_of_le_of_lt h (by decide +kernel)
/-- xs[i] in a block, K written -/
theorem pe_ixK {X : Cx} (K : PySem.W.Frag) (hK : X.K = K) {o i : Expr} {to ti : TE} {pos : Pos} (ho : PE X o to) (hi : PE X i ti) (hp : PlainIx i := by exact fun _ _ => rfl) : PE X (.Subscript o i pos) (tOp (rIxL K) to ti) := by
  subst hK
  exact pe_ix ix_list ho hi hp
theorem pe_ixTK {X : Cx} (K : PySem.W.Frag) (hK : X.K = K) {o i : Expr} {to ti : TE} {pos : Pos} (ho : PE X o to) (hi : PE X i ti) (hp : PlainIx i := by exact fun _ _ => rfl) : PE X (.Subscript o i pos) (tOp (rIxT K) to ti) := by
  subst hK
  exact pe_ix ix_tup ho hi hp
section
variable {X : Cx} {e tg : Expr} {te : TE} {p pos : Pos}
theorem pi_listK (K : PySem.W.Frag) (hK : X.K = K) (h : PE X e te) : PI X tg e (iList K te) := by
  subst hK
  exact pi_list h
theorem pi_tupK (K : PySem.W.Frag) (hK : X.K = K) (h : PE X e te) : PI X tg e (iTup K te) := by
  subst hK
  exact pi_tup h
theorem pe_allK (K : PySem.W.Frag) (hK : X.K = K) (hc : X.calm = true) (hg : Gl X "all") (hm : X.mg "all" = none) (ha : PE X e te) (hs : starEach [e] X.env = (false, eval e X.env) :: starEach [] X.env := by rfl) : PE X (.Call (.Name "all" p) [e] [] pos) (tCB (rAll K) (tCons te tNil)) := by
  subst hK
  exact pe_callB (cr_all hc) hg hm (by decide +kernel) (pa_cons ha pa_nil hs) (he := hs)
theorem pe_minK (K : PySem.W.Frag) (hK : X.K = K) (hc : X.calm = true) (hg : Gl X "min") (hm : X.mg "min" = none) (ha : PE X e te) (hs : starEach [e] X.env = (false, eval e X.env) :: starEach [] X.env := by rfl) : PE X (.Call (.Name "min" p) [e] [] pos) (tCB (rMin K) (tCons te tNil)) := by
  subst hK
  exact pe_callB (cr_min hc) hg hm (by decide +kernel) (pa_cons ha pa_nil hs) (he := hs)
end
section
variable {K : PySem.W.Frag} {a : Addr} {xs : List V} {g : TG} {tt : TT} {te : TE} {vs : List Nat} {σ : St} {H1 : Hp} {D : Addr} {Qd : Hp → Prop}
/-- over a list: turn i makes sel i, or nothing -/
theorem lc_sel (sel : Nat → Option V) (hx : SqL K H1 a xs) (hD : H1 D = none) (hn : xs.length ≤ 100000)
    (hs : ∀ (i : Nat) (x : V) (H : Hp) (Q : Option V → Hp → Prop), xs[i]? = some x → Same H1 H → (∀ H', Same H H' → Q (sel i) H') → g x (wipe σ vs) H fun σ2 H2 => wipe σ2 vs = wipe σ vs ∧ tt σ2 H2 fun b H3 =>
      if b = true then te σ2 H3 fun y H4 => Q (some y) H4 else Q none H3)
    (hd : ∀ H, Same H1 H → H D = some (.lst (selTo sel xs.length)) → Qd H) :
    ∃ W : Nat → Nat → Hp → Prop, (∃ m, W 0 m (upd H1 D (.lst []))) ∧ ∀ i m H, W i m H →
      ((Itl K a).stop i H ∧ Qd H) ∨ ((Itl K a).go i H ∧ ∃ Nx : Hp → Prop, (∀ H', Nx H' → ∃ m', m' < m ∧ W (i + 1) m' H') ∧ ∀ x H', (Itl K a).yld i H x H' → g x (wipe σ vs) H' fun σ2 H2 => wipe σ2 vs = wipe σ vs ∧ tt σ2 H2 fun b H3 =>
        if b = true then te σ2 H3 fun y H4 => ∃ acc, H4 D = some (.lst acc) ∧ acc.length < sizeLine ∧ Nx (upd H4 D (.lst (acc ++ [y]))) else Nx H3) := by
  refine lc_list (a := a) (xs := xs) (fun i H => i ≤ xs.length ∧ Same H1 H ∧ H D = some (.lst (selTo sel i))) ⟨Nat.zero_le _, same_app hD (fun _ _ e => e), upd_same⟩ (fun i H _ p => p.2.1.seq hx) (fun i x H hi p => ?_) (fun H p => hd H p.2.1 p.2.2)
  have hlt : i < xs.length := (List.getElem?_eq_some_iff.mp hi).1
  refine hs i x H (fun o H' => match o with | some y => ∃ acc, H' D = some (.lst acc) ∧ acc.length < sizeLine ∧ (i + 1 ≤ xs.length ∧ Same H1 (upd H' D (.lst (acc ++ [y]))) ∧ upd H' D (.lst (acc ++ [y])) D = some (.lst (selTo sel (i + 1)))) | none => i + 1 ≤ xs.length ∧ Same H1 H' ∧ H' D = some (.lst (selTo sel (i + 1)))) hi p.2.1 (fun H' S => ?_)
  have hl := selTo_le sel i
  rw [selTo_succ]
  cases sel i with
  | none => exact ⟨hlt, p.2.1.trans S, by simpa using S _ _ p.2.2⟩
  | some y => exact ⟨_, S _ _ p.2.2, small_line (by omega), hlt, same_app hD (p.2.1.trans S), upd_same⟩
/-- over a range -/
theorem lc_selR {lo : Int} {n : Nat} (sel : Nat → Option V) (hD : H1 D = none) (hn : n ≤ 100000)
    (hs : ∀ (i : Nat) (H : Hp) (Q : Option V → Hp → Prop), i < n → Same H1 H → (∀ H', Same H H' → Q (sel i) H') → g (.int (lo + i)) (wipe σ vs) H fun σ2 H2 => wipe σ2 vs = wipe σ vs ∧ tt σ2 H2 fun b H3 =>
      if b = true then te σ2 H3 fun y H4 => Q (some y) H4 else Q none H3)
    (hd : ∀ H, Same H1 H → H D = some (.lst (selTo sel n)) → Qd H) :
    ∃ W : Nat → Nat → Hp → Prop, (∃ m, W 0 m (upd H1 D (.lst []))) ∧ ∀ i m H, W i m H →
      ((Itr lo n).stop i H ∧ Qd H) ∨ ((Itr lo n).go i H ∧ ∃ Nx : Hp → Prop, (∀ H', Nx H' → ∃ m', m' < m ∧ W (i + 1) m' H') ∧ ∀ x H', (Itr lo n).yld i H x H' → g x (wipe σ vs) H' fun σ2 H2 => wipe σ2 vs = wipe σ vs ∧ tt σ2 H2 fun b H3 =>
        if b = true then te σ2 H3 fun y H4 => ∃ acc, H4 D = some (.lst acc) ∧ acc.length < sizeLine ∧ Nx (upd H4 D (.lst (acc ++ [y]))) else Nx H3) := by
  refine lc_range (fun i H => i ≤ n ∧ Same H1 H ∧ H D = some (.lst (selTo sel i))) ⟨Nat.zero_le _, same_app hD (fun _ _ e => e), upd_same⟩ (fun i H hlt p => ?_) (fun H p => hd H p.2.1 p.2.2)
  refine hs i H (fun o H' => match o with | some y => ∃ acc, H' D = some (.lst acc) ∧ acc.length < sizeLine ∧ (i + 1 ≤ n ∧ Same H1 (upd H' D (.lst (acc ++ [y]))) ∧ upd H' D (.lst (acc ++ [y])) D = some (.lst (selTo sel (i + 1)))) | none => i + 1 ≤ n ∧ Same H1 H' ∧ H' D = some (.lst (selTo sel (i + 1)))) hlt p.2.1 (fun H' S => ?_)
  have hl := selTo_le sel i
  rw [selTo_succ]
  cases sel i with
  | none => exact ⟨hlt, p.2.1.trans S, by simpa using S _ _ p.2.2⟩
  | some y => exact ⟨_, S _ _ p.2.2, small_line (by omega), hlt, same_app hD (p.2.1.trans S), upd_same⟩
theorem yes_ite {te : TE} {F : V → Hp → Prop} {N : Hp → Prop} {σ : St} {H : Hp} : (tYes σ H fun b H3 => if b = true then te σ H3 F else N H3) = te σ H F := by simp [tYes]
/-- over a list, without a test: the values ys -/
theorem lc_map (ys : List V) (hx : SqL K H1 a xs) (hD : H1 D = none) (hl : ys.length = xs.length) (hn : xs.length ≤ 100000)
    (hs : ∀ (i : Nat) (x y : V) (H : Hp) (Q : V → Hp → Prop), xs[i]? = some x → ys[i]? = some y → Same H1 H → (∀ H', Same H H' → Q y H') → g x (wipe σ vs) H fun σ2 H2 => wipe σ2 vs = wipe σ vs ∧ te σ2 H2 Q)
    (hd : ∀ H, Same H1 H → H D = some (.lst ys) → Qd H) :
    ∃ W : Nat → Nat → Hp → Prop, (∃ m, W 0 m (upd H1 D (.lst []))) ∧ ∀ i m H, W i m H →
      ((Itl K a).stop i H ∧ Qd H) ∨ ((Itl K a).go i H ∧ ∃ Nx : Hp → Prop, (∀ H', Nx H' → ∃ m', m' < m ∧ W (i + 1) m' H') ∧ ∀ x H', (Itl K a).yld i H x H' → g x (wipe σ vs) H' fun σ2 H2 => wipe σ2 vs = wipe σ vs ∧ tYes σ2 H2 fun b H3 =>
        if b = true then te σ2 H3 fun y H4 => ∃ acc, H4 D = some (.lst acc) ∧ acc.length < sizeLine ∧ Nx (upd H4 D (.lst (acc ++ [y]))) else Nx H3) := by
  refine lc_sel (fun j : Nat => ys[j]?) hx hD hn (fun i x H Q hi S q => ?_) (fun H S h => hd H S (by rw [← hl, selTo_get ys _ (Nat.le_refl _), List.take_length] at h; exact h))
  have hlt : i < xs.length := (List.getElem?_eq_some_iff.mp hi).1
  have hy : ys[i]? = some ys[i] := List.getElem?_eq_getElem (by omega)
  simp only [yes_ite]
  exact hs i x _ H (fun y H' => Q (some y) H') hi hy S fun H' S' => hy ▸ q H' S'
theorem lc_mapR {lo : Int} {n : Nat} (ys : List V) (hD : H1 D = none) (hl : ys.length = n) (hn : n ≤ 100000)
    (hs : ∀ (i : Nat) (y : V) (H : Hp) (Q : V → Hp → Prop), i < n → ys[i]? = some y → Same H1 H → (∀ H', Same H H' → Q y H') → g (.int (lo + i)) (wipe σ vs) H fun σ2 H2 => wipe σ2 vs = wipe σ vs ∧ te σ2 H2 Q)
    (hd : ∀ H, Same H1 H → H D = some (.lst ys) → Qd H) :
    ∃ W : Nat → Nat → Hp → Prop, (∃ m, W 0 m (upd H1 D (.lst []))) ∧ ∀ i m H, W i m H →
      ((Itr lo n).stop i H ∧ Qd H) ∨ ((Itr lo n).go i H ∧ ∃ Nx : Hp → Prop, (∀ H', Nx H' → ∃ m', m' < m ∧ W (i + 1) m' H') ∧ ∀ x H', (Itr lo n).yld i H x H' → g x (wipe σ vs) H' fun σ2 H2 => wipe σ2 vs = wipe σ vs ∧ tYes σ2 H2 fun b H3 =>
        if b = true then te σ2 H3 fun y H4 => ∃ acc, H4 D = some (.lst acc) ∧ acc.length < sizeLine ∧ Nx (upd H4 D (.lst (acc ++ [y]))) else Nx H3) := by
  refine lc_selR (fun j : Nat => ys[j]?) hD hn (fun i H Q hlt S q => ?_) (fun H S h => hd H S (by rw [← hl, selTo_get ys _ (Nat.le_refl _), List.take_length] at h; exact h))
  have hy : ys[i]? = some ys[i] := List.getElem?_eq_getElem (by omega)
  simp only [yes_ite]
  exact hs i _ H (fun y H' => Q (some y) H') hlt hy S fun H' S' => hy ▸ q H' S'
end
end L2
/-! ### set(xs) of a list of ints -/
namespace L2
open PySem PySem.Spec PyProof.Rows
def eset (w : World) : Obj := { cls := .type "set", dict := none, data := .set #[] 0 (.fresh 0 0 (!w.params.followText "set-order")) }
section
variable {P : Program} {w : World} {A : Around} {E : Value → Shared → Prop} {s : Shared}
set_option maxHeartbeats 4000000 in
theorem set_from {l : Addr} {its : Array Value} (zs : List Int) {Q : Value → Shared → Prop} (calm : A.handled = none) (isl : s.heap.IsList l its) (hz : IntsAre its.toList zs) (few : zs.length + 1 < scanBound)
    (fin : ∀ (g : Heap) (tt n : Nat), SetR w g s.heap.objs.size (fun j => decide (j ∈ zs)) n → n ≤ zs.length → (∀ b o, s.heap.get? b = some o → g.get? b = some o) → Q (.ref s.heap.objs.size) { s with heap := g, toks := tt }) :
    wpAny (model P w) A (call (.type "set") [.ref l]) Q E s := by
  have many : its.size = zs.length := by simpa using IntsAre.length hz
  have k1 := F.called_set
  obtain ⟨cc, tll, mroS⟩ := k1.mro
  have m1 := k1.made; have m2 := k1.sub; have m3 := k1.notType; have m4 := k1.canCreate; have m5 := F.typeCall_set_1 (.ref l)
  refine wpAny_call (codeAny_of_tree (show wpAny _ _ (callAny (.type "set") _) _ _ _ from wpAny_pure ⟨Code.quiet_builtin _ (by decide +kernel), codeAny_builtin F.entry_type_call ?_⟩))
  rw [Around.under_plain (weight_type_call_type "set" [.ref l] []) rfl]
  repeat (any_goals (first | assumption | wp_step))
  refine codeAny_mono (code_set_led1 (.ref l) (E := E) (Q₁ := fun ob t => ob = .ref s.heap.objs.size ∧ t = { s with heap := s.heap.push (eset w) }) ⟨rfl, rfl⟩) fun out t1 told => ?_
  match out, told with
  | .error _, told => exact told
  | .ok .next, told => exact told.elim
  | .ok .brk, told => exact told.elim
  | .ok .cont, told => exact told.elim
  | .ok (.ret ob), ⟨eo, et⟩ =>
    subst eo et
    have atS : (s.heap.push (eset w)).get? s.heap.objs.size = some (eset w) := Heap.get?_push_size _ rfl
    have tyS : Shared.TypeIs { s with heap := s.heap.push (eset w) } (.ref s.heap.objs.size) "set" := ⟨_, atS, rfl⟩
    have n1 := k1.init.lookup; have n2 := k1.init.bind (.ref s.heap.objs.size)
    repeat (any_goals (first | assumption | wp_step))
    refine codeAny_mono (codeAny_call_builtin (R := wants (fun r t => r = .none ∧ ∃ g tt n, t = { s with heap := g, toks := tt } ∧ SetR w g s.heap.objs.size (fun j => decide (j ∈ zs)) n ∧ n ≤ zs.length ∧ ∀ b o, s.heap.get? b = some o → g.get? b = some o) E) k1.init.plain F.entry_set_init (check_set_init_1 tyS ?_)) fun out t2 told => ?_
    · obtain ⟨⟨oc, od, odt, osl⟩, atL, cl, nn, dt⟩ := isl
      simp only at cl dt
      subst cl dt
      have atL1 : (s.heap.push (eset w)).get? l = some { cls := .type "list", dict := od, data := .seq its nn, slots := osl } := Heap.get?_push_of_some _ atL
      have q1 := F.sub_list_set; have q2 := F.sub_list_frozenset
      have q3 : (Value.type "list" == Value.type "dict") = false := by decide
      have isl1 : (s.heap.push (eset w)).IsList l its := ⟨_, atL1, rfl, nn, rfl⟩
      unfold Builtin.«set.__init__» noKeywords Builtin.Frozenset.updateFrom
      generalize eP : pyIter = PP
      wp_walk
      subst eP
      refine wpAny_pyIter_list isl1 (wpAny_bind (wpAny_runValue ?_))
      have lo : l < s.heap.objs.size := Heap.lt_size atL
      have sz : (s.heap.push (eset w)).objs.size = s.heap.objs.size + 1 := Heap.size_push ..
      have calm3 : A.in1.in1.in1.handled = none := by simp [calm]
      have d1 : l ≠ (s.heap.push (eset w)).objs.size := by rw [sz]; exact Nat.ne_of_lt (Nat.lt_succ_of_lt lo)
      have d2 : s.heap.objs.size ∉ [(s.heap.push (eset w)).objs.size, l] := by
        rw [sz]
        simp only [List.mem_cons, List.not_mem_nil, or_false, not_or]
        exact ⟨Nat.ne_of_lt (Nat.lt_succ_self _), (Nat.ne_of_lt lo).symm⟩
      have vals : ∀ (i : Nat) (v : Value), its[i]? = some v → ∃ k t, zs[i]? = some k ∧ v = .int k t := fun i v hv => by
        have lt : i < zs.length := many ▸ (Array.getElem?_eq_some_iff.mp hv).1
        obtain ⟨t, ev⟩ := IntsAre.int_at hz i v (by simpa using hv)
        exact ⟨zs[i], t, List.getElem?_eq_getElem lt, by rw [ev, List.getD_eq_getElem?_getD, List.getElem?_eq_getElem lt] <;> rfl⟩
      refine set_update_ints ((Walks.list calm3 _ l d1 its).toS) s.heap.objs.size d2 zs many few vals (its.size - 0) 0 _ (by omega) (Nat.zero_le _) ⟨⟨_, Heap.get?_push_size _ rfl, rfl, rfl⟩, isl1.push _⟩ ⟨0, Nat.le_refl 0, setR_new_at (Heap.get?_push_of_some _ atS)⟩ fun t n mv hn R => ?_
      obtain ⟨g, gn, dr, tt, os⟩ := t
      obtain rfl : gn = s.gens := mv.gens
      obtain rfl : dr = s.drawn := mv.drawn
      obtain rfl : os = s.os := mv.os
      show wpAny _ _ _ _ _ _
      refine wpAny_pure (show wpAny _ _ (ret Value.none) _ _ _ from wpAny_pure ⟨rfl, g, tt, n, rfl, R, many ▸ hn, fun b o e => ?_⟩)
      have hb := Heap.lt_size e
      refine mv.heap b o ?_ (Heap.get?_push_of_some _ (Heap.get?_push_of_some _ e))
      simp only [List.mem_cons, List.not_mem_nil, or_false, not_or]
      rw [sz]
      exact ⟨Nat.ne_of_lt hb, Nat.ne_of_lt (Nat.lt_succ_of_lt hb)⟩
    · match out, told with
      | .error _, told => exact told
      | .ok .next, told => exact told.elim
      | .ok .brk, told => exact told.elim
      | .ok .cont, told => exact told.elim
      | .ok (.ret _), ⟨e1, g, tt, n, e2, R, hn, kp⟩ =>
        subst e1 e2
        repeat (any_goals (first | assumption | wp_step))
        exact fin _ _ _ R hn kp
end
section
variable {X : Cx}
def rSetOfL (K : PySem.W.Frag) (w : World) : List V → Hp → VK → Prop := fun xs H Q => ∃ (l : Addr) (ns : List Int), xs = [.ref l] ∧ SqL K H l (ns.map V.int) ∧ ns.length ≤ 4000 ∧ ∀ p n, H p = none → n ≤ ns.length → Q (.ref p) (upd H p (SetO w p (fun j => decide (j ∈ ns)) n))
theorem cr_setL (hc : X.calm = true) : CallR X (.type "set") (rSetOfL X.K X.w) := by
  intro pins s σ H xs us Q I r h
  obtain ⟨l, ns, rfl, hs, hn, q⟩ := h
  obtain ⟨its, rv, hl, _⟩ := I.list hs
  rw [Vals.ref1 r]
  refine set_from ns (I.ok.hd hc) hl.isList (by simpa using rv.ints) (by unfold scanBound; omega) fun g tt n R hle kp => ?_
  exact ⟨.ref _, upd H s.heap.objs.size (SetO X.w s.heap.objs.size (fun j => decide (j ∈ ns)) n), I.laid (t' := tt) kp (Nat.le_refl _) (setO_new R), rfl, q _ _ (I.hok.fresh (Nat.le_refl _)) hle⟩
end
end L2
namespace RS
open PySem L2
theorem kGT : ¬ (("_gaps" : Str) = "_tail") := by decide +kernel
theorem kGO : ¬ (("_gaps" : Str) = "_offsets") := by decide +kernel
theorem kTO : ¬ (("_tail" : Str) = "_offsets") := by decide +kernel
def flds (g t o : Addr) : List (Str × V) := putF "_offsets" (.ref o) (putF "_tail" (.ref t) (putF "_gaps" (.ref g) []))
theorem flds_g (g t o : Addr) : (flds g t o).lookup ("_gaps" : Str) = some (.ref g) := by
  unfold flds
  rw [lookup_putF, if_neg kGO, lookup_putF, if_neg kGT, lookup_putF, if_pos rfl]
theorem flds_t (g t o : Addr) : (flds g t o).lookup ("_tail" : Str) = some (.ref t) := by
  unfold flds
  rw [lookup_putF, if_neg kTO, lookup_putF, if_pos rfl]
theorem flds_o (g t o : Addr) : (flds g t o).lookup ("_offsets" : Str) = some (.ref o) := by
  unfold flds
  rw [lookup_putF, if_pos rfl]
theorem flds_no (g t o : Addr) {m : Str} (h1 : ¬ m = "_offsets") (h2 : ¬ m = "_tail") (h3 : ¬ m = "_gaps") : (flds g t o).lookup m = none := by
  unfold flds
  rw [lookup_putF, if_neg h1, lookup_putF, if_neg h2, lookup_putF, if_neg h3]
  rfl
/-- a rule stands at p -/
structure RuleAt (C : Addr) (H : Hp) (p g t o : Addr) (gs : List Int) (tl : Tl) : Prop where
  ob : ∃ dx, H p = some (.ins C dx (flds g t o))
  hg : H g = some (.lst (gs.map V.int))
  ht : H t = some (.tup tl.vs)
  ho : H o = some (.lst ((offs gs).map V.int))
  okG : GapsOk gs
  okT : TlOk gs.length tl
theorem RuleAt.mono {C : Addr} {H H' : Hp} {p g t o : Addr} {gs : List Int} {tl : Tl} (R : RuleAt C H p g t o gs tl) (h : Same H H') : RuleAt C H' p g t o gs tl :=
  ⟨let ⟨dx, e⟩ := R.ob; ⟨dx, h _ _ e⟩, h _ _ R.hg, h _ _ R.ht, h _ _ R.ho, R.okG, R.okT⟩
theorem map_of {xs : List Int} {i : Nat} {x : V} (hx : (xs.map V.int)[i]? = some x) : ∃ g, xs[i]? = some g ∧ x = .int g := by
  rw [List.getElem?_map] at hx
  cases e : xs[i]? with
  | none => rw [e] at hx; cases hx
  | some g => rw [e] at hx; exact ⟨g, rfl, (Option.some.inj hx).symm⟩

section
variable {P : Program} {w : World} {K : PySem.W.Frag} {mg : Str → Option Value} {base : Heap}
/-! ### _sums -/
def spSums : Sp := fun vs H Q _ => ∃ a gs, vs = [.ref a] ∧ H a = some (.lst (gs.map V.int)) ∧ gs.length ≤ 100 ∧ ∀ p H', H p = none → Same H H' → H' p = some (.lst ((offs gs).map V.int)) → Q (.ref p) H'
theorem scSums : FnScope ["gaps", "offsets", "gap"] ["gaps"] (defScope s_sums) := ⟨rfl, rfl, rfl, by decide +kernel, rfl, by decide +kernel, by decide +kernel⟩
theorem ok_sums {f : Addr} {fd : FuncData} (F : Fun K "sums" "sums" s_sums f fd) : FnOk P w K mg base CX0 1 f fd ["gaps"] spSums := by
  refine F.ok scSums (fun vs H Q E h => ?_) (fun cdv A outer s H vs Q E hr h => ?_)
  · obtain ⟨a, gs, rfl, _⟩ := h
    rfl
  · obtain ⟨a, gs, rfl, ha, hn, k⟩ := h
    refine ⟨_, (pss_cons (ps_set (i := 1) scSums.nd rfl (Or.inl rfl) (pe_lst (pa_cons pe_int pa_nil))) (pss_cons (ps_for PassesOwn.never rfl (pi_list (pv 0)) (pg_name (i := 2) scSums.nd rfl (Or.inl rfl)) (pss_one (ps_expr (pe_bm PySem.F.plainAttrs_list PySem.F.slot_list_append PySem.F.type_list_append mt_append (pv 1) (pa_cons (pe_op op_add (pe_ix ix_list (pv 1) (pe_un un_neg pe_int) (fun _ _ => rfl)) (pv 2)) pa_nil))))) (pss_one (ps_ret (pv 1))))), ?_⟩
    refine ⟨by show 1 ≤ sizeLine; decide, fun l hl => ?_⟩
    have S0 : Same H (upd H l (.lst [.int 0])) := same_new hl
    refine ⟨_, rfl, a, rfl, ⟨_, SqL.of (S0 _ _ ha)⟩, for_list (a := a) (xs := gs.map V.int) (fun i σ H' => ∃ v, σ = [some (.ref a), some (.ref l), v] ∧ Same H H' ∧ H' l = some (.lst (((List.range (i + 1)).map (pre gs)).map V.int))) ⟨none, rfl, S0, upd_same⟩ (fun i σ H' _ ⟨v, _, S, _⟩ => SqL.of (S _ _ ha)) ?_ ?_⟩
    · rintro i x σ H' hx ⟨v, rfl, S, hl'⟩
      obtain ⟨g, hg, rfl⟩ := map_of hx
      have hi : i < gs.length := (List.getElem?_eq_some_iff.mp hg).1
      have hz : (((List.range (i + 1)).map (pre gs)).map V.int).length = i + 1 := by simp
      refine ⟨_, rfl, .inl ⟨rfl, _, SqL.of hl'⟩, _, rfl, _, rfl, l, _, _, _, rfl, rfl, SqL.of hl', at_back1 (v := .int (pre gs i)) (by rw [hz]; omega) ?_, _, rfl, _, _, rfl, rfl, l, _, _, rfl, rfl, hl', by rw [hz]; exact small1000 (by omega), ?_⟩
      · rw [hz, List.getElem?_map, List.getElem?_map, List.getElem?_range (by omega)]
        rfl
      · refine ⟨_, rfl, fun b o e => ?_, ?_⟩
        · rw [upd_ne (ne_of_none e hl)]
          exact S b o e
        · rw [upd_same, List.range_succ (n := i + 1), List.map_append, List.map_append]
          show _ = some (HO.lst (_ ++ [V.int (pre gs (i + 1))]))
          rw [pre_succ gs hg]
    · rintro σ H' ⟨v, rfl, S, hl'⟩
      rw [List.length_map] at hl'
      exact ⟨_, rfl, k l H' hl S hl'⟩

/-! ### _power -/
def spPower : Sp := fun vs H Q _ => ∃ (b : Int) (e : Nat), vs = [.int b, .int (e : Int)] ∧ 0 ≤ b ∧ b < 1024 ∧ e ≤ 1024 ∧ Q (.int (b ^ e)) H
theorem scPower : FnScope ["base", "exponent", "result"] ["base", "exponent"] (defScope s_power) := ⟨rfl, rfl, rfl, by decide +kernel, rfl, by decide +kernel, by decide +kernel⟩
theorem pow_small {b : Int} {n : Nat} (h0 : 0 ≤ b) (h1 : b < 1024) (hn : n ≤ 2048) : (b ^ n).natAbs < 2 ^ 20481 := by
  rw [Int.natAbs_pow]
  have h2 : b.natAbs ≤ 2 ^ 10 := by omega
  have h3 : b.natAbs ^ n ≤ (2 ^ 10) ^ n := Nat.pow_le_pow_left h2 n
  rw [← Nat.pow_mul] at h3
  have h4 : 2 ^ (10 * n) < 2 ^ 20481 := Nat.pow_lt_pow_right (by decide) (by omega)
  omega
theorem half_mod (e k : Nat) : e % 2 ^ (k + 1) = e % 2 ^ k + 2 ^ k * (e / 2 ^ k % 2) := by
  rw [Nat.pow_succ, Nat.mod_mul]
theorem half_div (e k : Nat) : e / 2 ^ k / 2 = e / 2 ^ (k + 1) := by
  rw [Nat.pow_succ, Nat.div_div_eq_div_mul]
theorem ok_power {f : Addr} {fd : FuncData} (F : Fun K "_power" "_power" s_power f fd) : FnOk P w K mg base CX0 1 f fd ["base", "exponent"] spPower := by
  refine F.ok scPower (fun vs H Q E h => ?_) (fun cdv A outer s H vs Q E hr h => ?_)
  · obtain ⟨b, e, rfl, _⟩ := h
    rfl
  · obtain ⟨b, e, rfl, b0, b1, he, k⟩ := h
    refine ⟨_, (pss_cons (ps_set (i := 2) scPower.nd rfl (Or.inl rfl) pe_int) (pss_cons (ps_while PassesOwn.never (pt_cmpR op_gt (pv 1) pe_int (nomark _)) (pss_cons (ps_if (pt_cmpR op_eq (pe_op op_odd (pv 1) pe_int) pe_int (nomark _)) (pss_one (ps_set (i := 2) scPower.nd rfl (Or.inl rfl) (pe_op op_mulW (pv 2) (pv 0)))) pss_nil) (pss_cons (ps_set (i := 0) scPower.nd rfl (Or.inl rfl) (pe_op op_mulW (pv 0) (pv 0))) (pss_one (ps_set (i := 1) scPower.nd rfl (Or.inl rfl) (pe_op op_halfN (pv 1) pe_int)))))) (pss_one (ps_ret (pv 2))))), ?_⟩
    refine ⟨fun m σ H' => H' = H ∧ ∃ j, m = e / 2 ^ j ∧ σ = [some (.int (b ^ (2 ^ j))), some (.int ((e / 2 ^ j : Nat) : Int)), some (.int (b ^ (e % 2 ^ j)))], ⟨e, rfl, 0, by simp, by simp [L2.start, Nat.mod_one]; rw [Int.pow_succ, Int.pow_zero, Int.one_mul]⟩, ?_⟩
    rintro m σ H' ⟨rfl, j, rfl, rfl⟩
    refine ⟨_, rfl, _, _, rfl, rfl, _, rfl, ?_⟩
    by_cases hz : 0 < e / 2 ^ j
    · refine iteTb (decide_eq_true (by omega)) ?_
      have hj : 2 ^ j ≤ e := by
        by_cases hlt : e < 2 ^ j
        · rw [Nat.div_eq_of_lt hlt] at hz; omega
        · omega
      have hj1 : (b ^ (2 ^ j)).natAbs < 2 ^ 20481 := pow_small b0 b1 (by omega)
      have hm : e % 2 ^ j < 2 ^ j := Nat.mod_lt _ (Nat.pow_pos (by decide))
      have hr1 : (b ^ (e % 2 ^ j)).natAbs < 2 ^ 20481 := pow_small b0 b1 (by omega)
      refine ⟨fun σ' H2 => H2 = H' ∧ σ' = [some (.int (b ^ (2 ^ (j + 1)))), some (.int ((e / 2 ^ (j + 1) : Nat) : Int)), some (.int (b ^ (e % 2 ^ (j + 1))))], ?_, ?_⟩
      · rintro σ' H2 ⟨rfl, rfl⟩
        refine ⟨e / 2 ^ (j + 1), ?_, rfl, j + 1, rfl, rfl⟩
        rw [← half_div]
        omega
      · have e2 : b ^ 2 ^ j * b ^ 2 ^ j = b ^ 2 ^ (j + 1) := by
          rw [← Int.pow_add, Nat.pow_succ, Nat.mul_two]
        refine ⟨_, rfl, e / 2 ^ j, rfl, rfl, rfl, _, rfl, ?_⟩
        rcases Nat.mod_two_eq_zero_or_one (e / 2 ^ j) with h2 | h2
        · refine iteFb (decide_eq_false (by rw [h2]; intro z; cases z)) ?_
          refine ⟨_, rfl, _, rfl, _, _, rfl, rfl, wide_mul hj1 hj1 (by decide) (by decide) (by decide), ?_⟩
          refine ⟨_, rfl, e / 2 ^ j, rfl, rfl, rfl, ?_⟩
          rw [half_mod, h2, Nat.mul_zero, Nat.add_zero, ← half_div, ← e2]
          rfl
        · refine iteTb (decide_eq_true (by rw [h2]; rfl)) ?_
          refine ⟨_, rfl, _, rfl, _, _, rfl, rfl, wide_mul hr1 hj1 (by decide) (by decide) (by decide), ?_⟩
          refine ⟨_, rfl, _, rfl, _, _, rfl, rfl, wide_mul hj1 hj1 (by decide) (by decide) (by decide), ?_⟩
          refine ⟨_, rfl, e / 2 ^ j, rfl, rfl, rfl, ?_⟩
          rw [half_mod, h2, Nat.mul_one, Int.pow_add, ← half_div, ← e2]
          rfl
    · refine iteFb (decide_eq_false (by omega)) ?_
      have hlt : e % 2 ^ j = e := by
        refine Nat.mod_eq_of_lt ?_
        have := Nat.lt_div_mul_add (a := e) (b := 2 ^ j) (Nat.pow_pos (by decide))
        have h0 : e / 2 ^ j = 0 := Nat.eq_zero_of_not_pos hz
        rw [h0] at this
        omega
      refine ⟨_, rfl, ?_⟩
      rw [hlt]
      exact k
end
end RS
namespace RS
open PySem L2
/-! ### the law's own source of numbers -/
/-- all but what stands at a is as it was -/
def Kx (a : Addr) (H H' : Hp) : Prop := ∀ c u, c ≠ a → H c = some u → H' c = some u
theorem Kx.refl (a : Addr) (H : Hp) : Kx a H H := fun _ _ _ h => h
theorem Kx.trans {a : Addr} {H H1 H2 : Hp} (x : Kx a H H1) (y : Kx a H1 H2) : Kx a H H2 := fun c u n h => y c u n (x c u n h)
theorem Kx.of {a : Addr} {H H' : Hp} (x : Same H H') : Kx a H H' := fun c u _ h => x c u h
theorem Kx.upd {a : Addr} {H : Hp} {o : HO} : Kx a H (upd H a o) := fun c u n h => by
  rw [upd_ne n]
  exact h
theorem Kx.free {a : Addr} {H H' : Hp} (x : Kx a H H') {p : Addr} (n : p ≠ a) (h : H' p = none) : H p = none := by
  cases q : H p with
  | none => rfl
  | some o =>
    rw [x p o n q] at h
    cases h
structure Src (H : Hp) (a : Addr) (b : Nat) : Prop where
  ex : ∃ s0 s1 s2 : Int, H a = some (.lst [.int s0, .int s1, .int s2]) ∧ 0 ≤ s0 ∧ 0 ≤ s1 ∧ s1 < 2147483647 ∧ 0 ≤ s2 ∧ s2 ≤ b
theorem Src.mono {H H' : Hp} {a : Addr} {b : Nat} (h : Src H a b) (e : Same H H') : Src H' a b := by
  obtain ⟨s0, s1, s2, h1, h2⟩ := h.ex
  exact ⟨s0, s1, s2, e _ _ h1, h2⟩
theorem Src.le {H : Hp} {a : Addr} {b c : Nat} (h : Src H a b) (e : b ≤ c) : Src H a c := by
  obtain ⟨s0, s1, s2, h1, h2, h3, h4, h5, h6⟩ := h.ex
  exact ⟨s0, s1, s2, h1, h2, h3, h4, h5, by omega⟩
theorem Src.new {H : Hp} {a : Addr} {b : Nat} (h : Src H a b) {p : Addr} (hp : H p = none) : a ≠ p := by
  obtain ⟨s0, s1, s2, h1, _⟩ := h.ex
  exact ne_of_none h1 hp
section
variable {P : Program} {w : World} {K : PySem.W.Frag} {mg : Str → Option Value} {base : Heap}
def spSrcOf : Sp := fun vs H Q _ => ∃ c : Int, vs = [.int c] ∧ ∀ a H', H a = none → Same H H' → Src H' a 0 → Q (.ref a) H'
theorem scSrcOf : FnScope ["_law_cell"] ["_law_cell"] (defScope s_law_source_of) := ⟨rfl, rfl, rfl, by decide +kernel, rfl, by decide +kernel, by decide +kernel⟩
theorem ok_srcOf {f C : Addr} {fd : FuncData} (F : Fun K "_law_source_of" "_law_source_of" s_law_source_of f fd) (T : Txt K mg C) : FnOk P w K mg base CX0 1 f fd ["_law_cell"] spSrcOf := by
  refine F.ok scSrcOf (fun vs H Q E h => ?_) (fun cdv A outer s H vs Q E hr h => ?_)
  · obtain ⟨c, rfl, _⟩ := h
    rfl
  · obtain ⟨c, rfl, k⟩ := h
    refine ⟨_, (pss_one (ps_ret (pe_lst (pa_cons (pe_op op_mul (pv 0) (pe_callTy call_int1 (by rfl) T.int (by decide +kernel) (pa_cons (pe_cmpR op_ge (pv 0) (pe_op op_pow pe_int pe_int) (nomark _)) pa_nil))) (pa_cons (pe_op op_mod (pe_callTy call_int1 (by rfl) T.int (by decide +kernel) (pa_cons (pv 0) pa_nil)) pe_int) (pa_cons pe_int pa_nil)))))), ?_⟩
    refine ⟨_, rfl, _, rfl, _, _, rfl, rfl, ⟨by decide, by decide, by decide⟩, _, _, rfl, rfl, .inr ⟨_, rfl, ?_⟩⟩
    refine ⟨_, _, rfl, rfl, .inr ?_, _, rfl, .inl ⟨_, rfl, _, _, rfl, rfl, (by show (0 : Int) < 2147483647; decide), (by show 3 ≤ sizeLine; decide), fun a ha => ?_⟩⟩
    · by_cases hc : (10 : Int) ^ (18 : Int).toNat ≤ c
      · rw [decide_eq_true hc]; decide
      · rw [decide_eq_false hc]; decide
    · refine k a _ ha (same_new ha) ⟨_, _, _, upd_same, ?_, Int.emod_nonneg _ (by decide), Int.emod_lt_of_pos _ (by decide), by decide, by decide⟩
      by_cases hc : (10 : Int) ^ (18 : Int).toNat ≤ c
      · have e : (10 : Int) ^ (18 : Int).toNat = 1000000000000000000 := by decide
        rw [decide_eq_true hc]
        show 0 ≤ c * 1
        omega
      · rw [decide_eq_false hc]
        show 0 ≤ c * 0
        omega
def spNext : Sp := fun vs H Q _ => ∃ (a : Addr) (m : Int) (b : Nat), vs = [.ref a, .int m] ∧ Src H a b ∧ b ≤ 100000 ∧ 1 ≤ m ∧ m < 2 ^ 200 ∧ ∀ r H', 0 ≤ r → r < m → Kx a H H' → Src H' a (b + 1) → Q (.int r) H'
theorem scNext : FnScope ["_law_source", "_law_many", "_law_found", "_law_prime", "_law_figure"] ["_law_source", "_law_many"] (defScope s_law_next) := ⟨rfl, rfl, rfl, by decide +kernel, rfl, by decide +kernel, by decide +kernel⟩
theorem prime_at {s : Int} (h : 0 ≤ s) : ∃ pr : Int, atI [V.int 2147483647, V.int 2147483629, V.int 2147483587, V.int 2147483579, V.int 2147483563, V.int 2147483549, V.int 2147483543] (s % 7) = some (.int pr) ∧ 1 ≤ pr ∧ pr ≤ 2147483647 := by
  have h1 : s % 7 = 0 ∨ s % 7 = 1 ∨ s % 7 = 2 ∨ s % 7 = 3 ∨ s % 7 = 4 ∨ s % 7 = 5 ∨ s % 7 = 6 := by omega
  rcases h1 with h1 | h1 | h1 | h1 | h1 | h1 | h1 <;> rw [h1] <;> exact ⟨_, rfl, by decide, by decide⟩
theorem ok_next {f C : Addr} {fd : FuncData} (F : Fun K "_law_next" "_law_next" s_law_next f fd) (T : Txt K mg C) : FnOk P w K mg base CX0 1 f fd ["_law_source", "_law_many"] spNext := by
  refine F.ok scNext (fun vs H Q E h => ?_) (fun cdv A outer s H vs Q E hr h => ?_)
  · obtain ⟨a, m, b, rfl, _⟩ := h
    rfl
  · obtain ⟨a, m, b, rfl, S, hb, hm1, hm2, k⟩ := h
    obtain ⟨s0, s1, s2, ha, h0, h1, h1', h2, h2'⟩ := S.ex
    refine ⟨_, (pss_cons (ps_if (pt_cmpR op_gt (pe_ix ix_list (pv 0) pe_int (fun _ _ => rfl)) pe_int (nomark _)) (pss_cons (ps_set (i := 2) scNext.nd rfl (Or.inl rfl) (pe_op op_mod (pe_callTy call_int1 (by rfl) T.int (by decide +kernel) (pa_cons (pe_ix ix_list (pv 0) pe_int (fun _ _ => rfl)) pa_nil)) (pv 1))) (pss_cons (ps_asg (pe_op op_fdivW (pe_ix ix_list (pv 0) pe_int (fun _ _ => rfl)) (pv 1)) (pg_sub (pv 0) pe_int set_list)) (pss_one (ps_ret (pv 2))))) pss_nil) (pss_cons (ps_asg (pe_op op_add (pe_ix ix_list (pv 0) pe_int (fun _ _ => rfl)) pe_int) (pg_sub (pv 0) pe_int set_list)) (pss_cons (ps_set (i := 3) scNext.nd rfl (Or.inl rfl) (pe_ix ix_list (pe_lst (pa_cons pe_int (pa_cons pe_int (pa_cons pe_int (pa_cons pe_int (pa_cons pe_int (pa_cons pe_int (pa_cons pe_int pa_nil)))))))) (pe_op op_mod (pe_callTy call_int1 (by rfl) T.int (by decide +kernel) (pa_cons (pe_ix ix_list (pv 0) pe_int (fun _ _ => rfl)) pa_nil)) pe_int) (fun _ _ => rfl))) (pss_cons (ps_set (i := 4) scNext.nd rfl (Or.inl rfl) (pe_op op_mod (pe_callTy call_int1 (by rfl) T.int (by decide +kernel) (pa_cons (pe_op op_pow (pe_op op_add (pe_op op_add (pe_ix ix_list (pv 0) pe_int (fun _ _ => rfl)) (pe_op op_mul pe_int (pe_ix ix_list (pv 0) pe_int (fun _ _ => rfl)))) pe_int) pe_int) pa_nil)) (pv 3))) (pss_cons (ps_set (i := 4) scNext.nd rfl (Or.inl rfl) (pe_op op_mod (pe_callTy call_int1 (by rfl) T.int (by decide +kernel) (pa_cons (pe_op op_mul (pe_op op_add (pv 4) (pe_ix ix_list (pv 0) pe_int (fun _ _ => rfl))) (pe_op op_add (pe_op op_fdiv (pv 4) pe_int) pe_int)) pa_nil)) (pv 3))) (pss_one (ps_ret (pe_op op_mod (pe_callTy call_int1 (by rfl) T.int (by decide +kernel) (pa_cons (pe_op op_fdiv (pv 4) pe_int) pa_nil)) (pv 1))))))))), ?_⟩
    refine ⟨_, rfl, a, _, _, _, rfl, rfl, SqL.of ha, atI_nat (j := 0) rfl, _, _, rfl, rfl, _, rfl, ?_⟩
    by_cases hz : 0 < s0
    · refine iteTb (decide_eq_true hz) ?_
      refine ⟨_, rfl, a, _, _, _, rfl, rfl, SqL.of ha, atI_nat (j := 0) rfl, .inl ⟨_, rfl, _, rfl, _, _, rfl, rfl, by omega, ?_⟩⟩
      refine ⟨_, rfl, a, _, _, _, rfl, rfl, SqL.of ha, atI_nat (j := 0) rfl, _, rfl, _, _, rfl, rfl, wide_div (by omega) (b := 200) (by omega) (by decide) (by decide), _, rfl, a, _, _, 0, rfl, rfl, ha, rfl, ?_⟩
      refine ⟨_, rfl, k _ _ (Int.emod_nonneg _ (by omega)) (Int.emod_lt_of_pos _ (by omega)) Kx.upd ⟨s0 / m, s1, s2, upd_same, Int.ediv_nonneg h0 (by omega), h1, h1', h2, by omega⟩⟩
    · refine iteFb (decide_eq_false hz) ?_
      refine ⟨_, rfl, a, _, _, _, rfl, rfl, SqL.of ha, atI_nat (j := 2) rfl, _, _, rfl, rfl, _, rfl, a, _, _, 2, rfl, rfl, ha, rfl, ?_⟩
      refine ⟨by show 7 ≤ sizeLine; decide, fun l hl => ?_⟩
      have hal : (upd (upd H a (.lst [.int s0, .int s1, .int (s2 + 1)])) l (.lst [.int 2147483647, .int 2147483629, .int 2147483587, .int 2147483579, .int 2147483563, .int 2147483549, .int 2147483543])) a = some (.lst [.int s0, .int s1, .int (s2 + 1)]) := by
        rw [upd_ne (ne_of_none upd_same hl)]
        exact upd_same
      obtain ⟨pr, hpr, hp1, hp2⟩ := prime_at (s := s2 + 1) (by omega)
      refine ⟨_, rfl, a, _, _, _, rfl, rfl, SqL.of hal, atI_nat (j := 2) rfl, .inl ⟨_, rfl, _, _, rfl, rfl, (by show (0 : Int) < 7; decide), l, _, _, _, rfl, rfl, SqL.of upd_same, hpr, ?_⟩⟩
      refine ⟨_, rfl, a, _, _, _, rfl, rfl, SqL.of hal, atI_nat (j := 1) rfl, _, rfl, a, _, _, _, rfl, rfl, SqL.of hal, atI_nat (j := 2) rfl, _, _, rfl, rfl, .inl ⟨by decide, by decide⟩, _, _, rfl, rfl, _, _, rfl, rfl, _, _, rfl, rfl, ⟨by decide, by decide, by omega⟩, .inl ⟨_, rfl, _, rfl, _, _, rfl, rfl, by omega, ?_⟩⟩
      generalize hf : (s1 + 7919 * (s2 + 1) + 1) ^ (5 : Int).toNat % pr = fg
      have f0 : 0 ≤ fg := by rw [← hf]; exact Int.emod_nonneg _ (by omega)
      have f1 : fg < pr := by rw [← hf]; exact Int.emod_lt_of_pos _ (by omega)
      refine ⟨_, rfl, _, rfl, a, _, _, _, rfl, rfl, SqL.of hal, atI_nat (j := 2) rfl, _, _, rfl, rfl, _, rfl, _, _, rfl, rfl, ⟨by decide, by decide⟩, _, _, rfl, rfl, _, _, rfl, rfl, .inl ⟨by omega, by omega⟩, .inl ⟨_, rfl, _, rfl, _, _, rfl, rfl, by omega, ?_⟩⟩
      refine ⟨_, rfl, _, _, rfl, rfl, ⟨by decide, by decide⟩, .inl ⟨_, rfl, _, rfl, _, _, rfl, rfl, by omega, ?_⟩⟩
      refine k _ _ (Int.emod_nonneg _ (by omega)) (Int.emod_lt_of_pos _ (by omega)) (fun c u n e => ?_) ⟨s0, s1, s2 + 1, hal, h0, h1, h1', by omega, by omega⟩
      have e2 : (upd H a (.lst [.int s0, .int s1, .int (s2 + 1)])) c = some u := by
        rw [upd_ne n]
        exact e
      rw [upd_ne (ne_of_none e2 hl)]
      exact e2
def spOne : Sp := fun vs H Q _ => ∃ (a q : Addr) (xs : List V) (b : Nat), vs = [.ref a, .ref q] ∧ Src H a b ∧ b ≤ 100000 ∧ q ≠ a ∧ H q = some (.lst xs) ∧ 0 < xs.length ∧ xs.length < 1000 ∧ ∀ x H', x ∈ xs → Kx a H H' → Src H' a (b + 1) → Q x H'
theorem scOne : FnScope ["_law_source", "_law_options"] ["_law_source", "_law_options"] (defScope s_law_one) := ⟨rfl, rfl, rfl, by decide +kernel, rfl, by decide +kernel, by decide +kernel⟩
theorem ok_one {f C fN : Addr} {fd fdN : FuncData} (F : Fun K "_law_one" "_law_one" s_law_one f fd) (T : Txt K mg C) (FN : Fun K "_law_next" "_law_next" s_law_next fN fdN) (bN : Binds K fdN ["_law_source", "_law_many"] []) (mN : mg "_law_next" = some (.ref fN)) :
    FnOk P w K mg base CX0 2 f fd ["_law_source", "_law_options"] spOne := by
  have GN : FnOk P w K mg base CX0 1 fN fdN ["_law_source", "_law_many"] spNext := ok_next FN T
  refine F.ok scOne (fun vs H Q E h => ?_) (fun cdv A outer s H vs Q E hr h => ?_)
  · obtain ⟨a, q, xs, b, rfl, _⟩ := h
    rfl
  · obtain ⟨a, q, xs, b, rfl, S, hb, hne, hq, hx0, hx1, k⟩ := h
    refine ⟨_, (pss_one (ps_ret (pe_ix ix_list (pv 1) (pe_call GN hr rfl mN FN.kp bN .nil pass0 (pa_cons (pv 0) (pa_cons (pe_callB call_len_seq (by rfl) T.len (by decide +kernel) (pa_cons (pv 1) pa_nil)) pa_nil))) (fun _ _ => rfl)))), ?_⟩
    refine ⟨_, rfl, _, rfl, _, rfl, q, _, rfl, .inl (SqL.of hq), a, (xs.length : Int), b, rfl, S, hb, by omega, by omega, fun r H' r0 r1 kx S' => ?_⟩
    obtain ⟨j, rfl⟩ : ∃ j : Nat, r = (j : Int) := ⟨r.toNat, by omega⟩
    have hj : j < xs.length := by omega
    exact ⟨q, _, _, _, rfl, rfl, SqL.of (kx _ _ hne hq), atI_nat (List.getElem?_eq_getElem hj), k _ _ (List.getElem_mem hj) kx S'⟩
def spCell (K : PySem.W.Frag) : Sp := fun vs H Q _ => ∃ (a : Addr) (ns : List Int), vs = [.ref a, .int 0] ∧ SqL K H a (ns.map V.int) ∧ Q (.int (ns.getD 0 0)) H
theorem scCell : FnScope ["_law_script", "_law_k"] ["_law_script", "_law_k"] (defScope s_law_cell_at) := ⟨rfl, rfl, rfl, by decide +kernel, rfl, by decide +kernel, by decide +kernel⟩
theorem ok_cell {f C : Addr} {fd : FuncData} (F : Fun K "_law_cell_at" "_law_cell_at" s_law_cell_at f fd) (T : Txt K mg C) : FnOk P w K mg base CX0 1 f fd ["_law_script", "_law_k"] (spCell K) := by
  refine F.ok scCell (fun vs H Q E h => ?_) (fun cdv A outer s H vs Q E hr h => ?_)
  · obtain ⟨a, ns, rfl, _⟩ := h
    rfl
  · obtain ⟨a, ns, rfl, hs, k⟩ := h
    refine ⟨_, (pss_cons (ps_if (pt_cmpR op_lt (pv 1) (pe_callB call_len_seq (by rfl) T.len (by decide +kernel) (pa_cons (pv 0) pa_nil)) (nomark _)) (pss_one (ps_ret (pe_ix ix_list (pv 0) (pv 1) (fun _ _ => rfl)))) pss_nil) (pss_one (ps_ret pe_int))), ?_⟩
    refine ⟨_, rfl, _, rfl, a, _, rfl, .inl hs, _, _, rfl, rfl, _, rfl, ?_⟩
    rw [List.length_map]
    cases ns with
    | nil => exact iteFb (by decide) k
    | cons n r =>
      refine iteTb (decide_eq_true (by rw [List.length_cons]; omega)) ?_
      exact ⟨_, rfl, _, rfl, a, _, _, _, rfl, rfl, hs, atI_nat (j := 0) rfl, k⟩
end
end RS
namespace RS
open PySem L2
/-! ### slices -/
theorem cut_to (xs : List V) (n : Nat) : cutV xs none (some (n : Int)) = xs.take n := by
  unfold cutV
  rw [HT.sIx_none, HT.sIx_nat, List.drop_zero, Nat.sub_zero]
  by_cases h : n ≤ xs.length
  · rw [Nat.min_eq_left h]
  · rw [Nat.min_eq_right (by omega), List.take_length, List.take_of_length_le (by omega)]
theorem cut_mid (xs : List V) (i n : Nat) : cutV xs (some (i : Int)) (some (n : Int)) = (xs.drop i).take (n - i) := by
  unfold cutV
  rw [HT.sIx_nat, HT.sIx_nat]
  by_cases h : i ≤ xs.length
  · rw [Nat.min_eq_left h]
    by_cases h2 : n ≤ xs.length
    · rw [Nat.min_eq_left h2]
    · rw [Nat.min_eq_right (by omega), List.take_of_length_le (by rw [List.length_drop]; exact Nat.le_refl _), List.take_of_length_le (by rw [List.length_drop]; omega)]
  · rw [show min i xs.length = xs.length by omega, List.drop_of_length_le (Nat.le_refl _), List.drop_of_length_le (show xs.length ≤ i by omega)]
    simp
theorem cut_back (xs : List V) {m : Nat} (h0 : 0 < m) (h : m ≤ xs.length) : cutV xs (some (-(m : Int))) none = xs.drop (xs.length - m) := by
  have e : HT.sIx xs.length 0 (some (-(m : Int))) = xs.length - m := by
    show (if -(m : Int) < 0 then (-(m : Int) + (xs.length : Int)).toNat else min (-(m : Int)).toNat xs.length) = _
    rw [if_pos (by omega)]
    omega
  unfold cutV
  rw [e, HT.sIx_none, List.take_of_length_le (by rw [List.length_drop]; exact Nat.le_refl _)]
theorem cut_from (xs : List V) {i : Nat} (h : i ≤ xs.length) : cutV xs (some (i : Int)) none = xs.drop i := by
  unfold cutV
  rw [HT.sIx_nat, HT.sIx_none, Nat.min_eq_left h, List.take_of_length_le (by rw [List.length_drop]; exact Nat.le_refl _)]
end RS
namespace RS
open PySem L2
def Tl.word : Tl → Str
  | .fin => "end"
  | .times _ => "times"
  | .rep _ => "repeat"
theorem Tl.at0 (tl : Tl) : atI tl.vs 0 = some (.str tl.word) := by cases tl <;> exact atI_nat (j := 0) rfl
theorem wEE : decide (V.str "end" = V.str "end") = true := by decide +kernel
theorem wET : decide (V.str "end" = V.str "times") = false := by decide +kernel
theorem wER : decide (V.str "end" = V.str "repeat") = false := by decide +kernel
theorem wTE : decide (V.str "times" = V.str "end") = false := by decide +kernel
theorem wTT : decide (V.str "times" = V.str "times") = true := by decide +kernel
theorem wTR : decide (V.str "times" = V.str "repeat") = false := by decide +kernel
theorem wRE : decide (V.str "repeat" = V.str "end") = false := by decide +kernel
theorem wRT : decide (V.str "repeat" = V.str "times") = false := by decide +kernel
theorem wRR : decide (V.str "repeat" = V.str "repeat") = true := by decide +kernel
def lastG (gs : List Int) : Int := gs.getD (gs.length - 1) 0
def per (gs : List Int) (m : Nat) : Int := pre gs gs.length - pre gs (gs.length - m)
def off (gs : List Int) (tl : Tl) (n : Nat) : Int :=
  if n ≤ gs.length then pre gs n else match tl with
  | .fin => 0
  | .times b => pre gs gs.length + lastG gs * b * (b ^ (n - gs.length) - 1) / (b - 1)
  | .rep m => pre gs (gs.length - m + (n - gs.length) % m) + (((n - gs.length) / m : Nat) + 1) * per gs m
def gapf (gs : List Int) (tl : Tl) (n : Nat) : Int :=
  if n < gs.length then gs.getD n 0 else match tl with
  | .fin => 0
  | .times b => lastG gs * b ^ (n - gs.length + 1)
  | .rep m => gs.getD (gs.length - m + (n - gs.length) % m) 0
/-- an attempt that is answered -/
def AttOk (gs : List Int) (tl : Tl) (n : Nat) : Prop := match tl with
  | .fin => n ≤ gs.length
  | .times _ => n ≤ 1000
  | .rep _ => True
theorem AttOk.low {gs : List Int} {tl : Tl} (okG : GapsOk gs) {n : Nat} (h : n ≤ gs.length) : AttOk gs tl n := by
  cases tl with
  | fin => exact h
  | times b => have := okG.1; show n ≤ 1000; omega
  | rep m => exact True.intro
theorem getD_get {gs : List Int} {k : Nat} (h : k < gs.length) : gs[k]? = some (gs.getD k 0) := by
  rw [List.getD_eq_getElem?_getD, List.getElem?_eq_getElem h]
  rfl
theorem gap_bd {gs : List Int} (ok : GapsOk gs) {k : Nat} (h : k < gs.length) : 1 ≤ gs.getD k 0 ∧ gs.getD k 0 ≤ 1000000000000 := ok.2 _ (List.mem_of_getElem? (getD_get h))
theorem pre_le {gs : List Int} (ok : GapsOk gs) : ∀ k, k ≤ gs.length → (k : Int) ≤ pre gs k ∧ pre gs k ≤ 1000000000000 * k
  | 0, _ => by rw [pre_zero]; omega
  | k + 1, h => by
    have ih := pre_le ok k (by omega)
    have b := gap_bd ok (k := k) (by omega)
    rw [pre_succ gs (getD_get (by omega))]
    omega
theorem pre_mono {gs : List Int} (ok : GapsOk gs) (i : Nat) : ∀ k, i + k ≤ gs.length → pre gs i + k ≤ pre gs (i + k)
  | 0, _ => by simp
  | k + 1, h => by
    have ih := pre_mono ok i k (by omega)
    have b := gap_bd ok (k := i + k) (by omega)
    rw [show i + (k + 1) = (i + k) + 1 by omega, pre_succ gs (getD_get (by omega))]
    omega
theorem per_bd {gs : List Int} (ok : GapsOk gs) {m : Nat} (h1 : 1 ≤ m) (h2 : m ≤ gs.length) : (m : Int) ≤ per gs m ∧ per gs m ≤ 20000000000000 := by
  have a := pre_mono ok (gs.length - m) m (by omega)
  have b := pre_le ok (gs.length - m) (by omega)
  have c := pre_le ok gs.length (Nat.le_refl _)
  have d := ok.1
  rw [show gs.length - m + m = gs.length by omega] at a
  unfold per
  omega

section
variable {P : Program} {w : World} {K : PySem.W.Frag} {mg : Str → Option Value} {base : Heap}
/-! ### a rule's attributes, read -/
section
variable {C p g t o : Addr} {gs : List Int} {tl : Tl} {H : Hp} {σ : L2.St} {i : Nat}
theorem rdG {Q : VK} (T : Txt K mg C) (R : RuleAt C H p g t o gs tl) (hi : σ[i]? = some (some (.ref p))) (q : Q (.ref g) H) : tFld K (tVar i) "_gaps" σ H Q := by
  obtain ⟨dx, h⟩ := R.ob
  exact ⟨_, hi, p, C, dx, _, _, rfl, h, T.cl, T.nG, flds_g _ _ _, q⟩
theorem rdT {Q : VK} (T : Txt K mg C) (R : RuleAt C H p g t o gs tl) (hi : σ[i]? = some (some (.ref p))) (q : Q (.ref t) H) : tFld K (tVar i) "_tail" σ H Q := by
  obtain ⟨dx, h⟩ := R.ob
  exact ⟨_, hi, p, C, dx, _, _, rfl, h, T.cl, T.nT, flds_t _ _ _, q⟩
theorem rdO {Q : VK} (T : Txt K mg C) (R : RuleAt C H p g t o gs tl) (hi : σ[i]? = some (some (.ref p))) (q : Q (.ref o) H) : tFld K (tVar i) "_offsets" σ H Q := by
  obtain ⟨dx, h⟩ := R.ob
  exact ⟨_, hi, p, C, dx, _, _, rfl, h, T.cl, T.nO, flds_o _ _ _, q⟩
theorem rdOx {te : TE} {Q : VK} (T : Txt K mg C) (R : RuleAt C H p g t o gs tl) (hi : σ[i]? = some (some (.ref p))) (q : te σ H fun y H2 => rIxL K (.ref o) y H2 Q) : tOp (rIxL K) (tFld K (tVar i) "_offsets") te σ H Q := by
  dsimp only [tOp]
  exact rdO T R hi q
theorem rdGx {te : TE} {Q : VK} (T : Txt K mg C) (R : RuleAt C H p g t o gs tl) (hi : σ[i]? = some (some (.ref p))) (q : te σ H fun y H2 => rIxL K (.ref g) y H2 Q) : tOp (rIxL K) (tFld K (tVar i) "_gaps") te σ H Q := by
  dsimp only [tOp]
  exact rdG T R hi q
theorem rdIs {s : Str} {Q : Bool → Hp → Prop} (T : Txt K mg C) (R : RuleAt C H p g t o gs tl) (hi : σ[i]? = some (some (.ref p))) (q : Q (decide (V.str tl.word = V.str s)) H) :
    tTest (tOp rEq (tOp (rIxT K) (tFld K (tVar i) "_tail") (tC (.int 0))) (tC (.str s))) σ H Q := by
  dsimp only [tTest, tOp]
  exact rdT T R hi ⟨t, _, _, _, rfl, rfl, SqT.of R.ht, tl.at0, rfl, _, rfl, q⟩
theorem rdNe {s : Str} {Q : Bool → Hp → Prop} (T : Txt K mg C) (R : RuleAt C H p g t o gs tl) (hi : σ[i]? = some (some (.ref p))) (q : Q (!decide (V.str tl.word = V.str s)) H) :
    tTest (tOp rNe (tOp (rIxT K) (tFld K (tVar i) "_tail") (tC (.int 0))) (tC (.str s))) σ H Q := by
  dsimp only [tTest, tOp]
  exact rdT T R hi ⟨t, _, _, _, rfl, rfl, SqT.of R.ht, tl.at0, rfl, _, rfl, q⟩
theorem rdB {b : Int} {Q : VK} (T : Txt K mg C) (R : RuleAt C H p g t o gs (.times b)) (hi : σ[i]? = some (some (.ref p))) (q : Q (.int b) H) : tOp (rIxT K) (tFld K (tVar i) "_tail") (tC (.int 1)) σ H Q :=
  rdT T R hi ⟨t, _, _, _, rfl, rfl, SqT.of R.ht, atI_nat (j := 1) rfl, q⟩
theorem rdN {m : Nat} {Q : VK} (T : Txt K mg C) (R : RuleAt C H p g t o gs (.rep m)) (hi : σ[i]? = some (some (.ref p))) (q : Q (.int (m : Int)) H) : tOp (rIxT K) (tFld K (tVar i) "_tail") (tC (.int 1)) σ H Q :=
  rdT T R hi ⟨t, _, _, _, rfl, rfl, SqT.of R.ht, atI_nat (j := 1) rfl, q⟩
theorem rdLast {Q : VK} (T : Txt K mg C) (R : RuleAt C H p g t o gs tl) (hi : σ[i]? = some (some (.ref p))) (h0 : 0 < gs.length) (q : Q (.int (lastG gs)) H) :
    tOp (rIxL K) (tFld K (tVar i) "_gaps") (tUn (rU fun i => .int (-i)) (tC (.int 1))) σ H Q :=
  rdG T R hi ⟨_, rfl, g, _, _, _, rfl, rfl, SqL.of R.hg, at_back1 (by rw [List.length_map]; exact h0) (by rw [List.length_map, List.getElem?_map, getD_get (by omega)]; rfl), q⟩
theorem rdLastO {Q : VK} (T : Txt K mg C) (R : RuleAt C H p g t o gs tl) (hi : σ[i]? = some (some (.ref p))) (q : Q (.int (pre gs gs.length)) H) :
    tOp (rIxL K) (tFld K (tVar i) "_offsets") (tUn (rU fun i => .int (-i)) (tC (.int 1))) σ H Q :=
  rdO T R hi ⟨_, rfl, o, _, _, _, rfl, rfl, SqL.of R.ho, at_back1 (by rw [List.length_map, offs_len]; omega) (by rw [List.length_map, offs_len, List.getElem?_map, offs_get gs (by omega)]; rfl), q⟩
end
/-! ### Rule.__init__ -/
def spInit (C : Addr) : Sp := fun vs H Q _ => ∃ (p dx a t : Addr) (gs : List Int) (tl : Tl), vs = [.ref p, .ref a, .ref t] ∧ H p = some (.ins C dx []) ∧ H a = some (.lst (gs.map V.int)) ∧ H t = some (.tup tl.vs) ∧ GapsOk gs ∧ TlOk gs.length tl ∧
  ∀ (g o : Addr) (H' : Hp), H g = none → H o = none → (∀ b u, H b = some u → b ≠ p → H' b = some u) → RuleAt C H' p g t o gs tl → Q .non H'
theorem scInit : FnScope ["self", "gaps", "tail"] ["self", "gaps", "tail"] (defScope s_Rule_ddinitdd) := ⟨rfl, rfl, rfl, by decide +kernel, rfl, by decide +kernel, by decide +kernel⟩
theorem ok_init {f C fA fB fS fi : Addr} {fd fdA fdB fdS fdi : FuncData} (F : Fun K "__init__" "Rule.__init__" s_Rule_ddinitdd f fd) (T : Txt K mg C) (FI : Fun K "is_integer" "is_integer" s_is_integer fi fdi) (bI : Binds K fdi ["value"] []) (mI : mg "is_integer" = some (.ref fi))
    (FA : Fun K "are_gaps" "are_gaps" s_are_gaps fA fdA) (bA : Binds K fdA ["value", "most"] []) (mA : mg "are_gaps" = some (.ref fA)) (FB : Fun K "_is_tail" "_is_tail" s_is_tail fB fdB) (bB : Binds K fdB ["value", "many"] []) (mB : mg "_is_tail" = some (.ref fB))
    (FS : Fun K "sums" "sums" s_sums fS fdS) (bS : Binds K fdS ["gaps"] []) (mS : mg "sums" = some (.ref fS)) : FnOk P w K mg base CX0 3 f fd ["self", "gaps", "tail"] (spInit C) := by
  have GA : FnOk P w K mg base CX0 2 fA fdA ["value", "most"] spAreGaps := ok_areGaps FA T FI bI mI
  have GB : FnOk P w K mg base CX0 2 fB fdB ["value", "many"] spIsTail := ok_isTail FB T FI bI mI
  have GS : FnOk P w K mg base CX0 1 fS fdS ["gaps"] spSums := ok_sums FS
  obtain ⟨t1, m1⟩ := T.mMost
  refine F.ok scInit (fun vs H Q E h => ?_) (fun cdv A outer s H vs Q E hr h => ?_)
  · obtain ⟨p, dx, a, t, gs, tl, rfl, _⟩ := h
    rfl
  · obtain ⟨p, dx, a, t, gs, tl, rfl, hp, ha, ht, okG, okT, k⟩ := h
    refine ⟨_, (pss_cons (ps_if (pt_not (pt_val (pe_call GA hr rfl mA FA.kp bA .nil pass0 (pa_cons (pv 1) (pa_cons (pe_glob (v := .int 20) rfl m1 ⟨_, rfl⟩) pa_nil))))) (pss_one ps_never) pss_nil) (pss_cons (ps_if (pt_not (pt_val (pe_call GB hr rfl mB FB.kp bB .nil pass0 (pa_cons (pv 2) (pa_cons (pe_callB call_len_seq (by rfl) T.len (by decide +kernel) (pa_cons (pv 1) pa_nil)) pa_nil))))) (pss_one ps_never) pss_nil) (pss_cons (ps_fld (pv 0) (pe_callTy call_list_of (by rfl) T.list (by decide +kernel) (pa_cons (pv 1) pa_nil)) rfl) (pss_cons (ps_fld (pv 0) (pe_callTy call_tuple_of (by rfl) T.tuple (by decide +kernel) (pa_cons (pv 2) pa_nil)) rfl) (pss_one (ps_fld (pv 0) (pe_call GS (hr.mono (by decide)) rfl mS FS.kp bS .nil pass0 (pa_cons (pe_fld (pv 0) rfl) pa_nil)) rfl)))))), ?_⟩
    refine ⟨_, rfl, a, gs, 20, rfl, ha, okG, okG.1, fun H1 S1 => ⟨true, rfl, iteF ?_⟩⟩
    refine ⟨_, rfl, _, rfl, a, _, rfl, .inl (SqL.of (S1 _ _ ha)), t, tl, gs.length, ?_, S1 _ _ ht, okT, fun H2 S2 => ⟨true, rfl, iteF ?_⟩⟩
    · rw [List.length_map]
      rfl
    have S := S1.trans S2
    refine ⟨_, rfl, a, _, rfl, .inl (SqL.of (S _ _ ha)), fun g hg2 => ?_⟩
    have hg : H g = none := S.free hg2
    have npg : p ≠ g := ne_of_none hp hg
    have ntg : t ≠ g := ne_of_none ht hg
    have nag : a ≠ g := ne_of_none ha hg
    have npt : t ≠ p := ne_of ht hp (by intro z; cases z)
    have npa : a ≠ p := ne_of ha hp (by intro z; cases z)
    refine ⟨_, rfl, p, C, dx, [], rfl, (by rw [upd_ne npg]; exact S _ _ hp), T.cl, T.nG, (by show 0 < 1000; decide), ?_⟩
    refine ⟨_, rfl, t, _, rfl, .inr ⟨SqT.of (by rw [upd_ne npt, upd_ne ntg]; exact S _ _ ht), ?_⟩⟩
    refine ⟨_, rfl, p, C, dx, _, rfl, upd_same, T.cl, T.nT, (by show 1 < 1000; decide), ?_⟩
    have hgl : (putF "_tail" (.ref t) (putF "_gaps" (.ref g) [])).lookup ("_gaps" : Str) = some (V.ref g) := by
      rw [lookup_putF, if_neg kGT, lookup_putF, if_pos rfl]
    refine ⟨_, rfl, p, C, dx, _, _, rfl, upd_same, T.cl, T.nG, hgl, ?_⟩
    refine ⟨g, gs, rfl, (by rw [upd_ne npg.symm, upd_ne npg.symm, upd_same]), (by have := okG.1; omega), fun o H3 ho S3 ho3 => ?_⟩
    have hp3 := S3 _ _ (upd_same (H := upd (upd H2 g (.lst (gs.map V.int))) p (.ins C dx (putF "_gaps" (.ref g) []))) (a := p) (o := .ins C dx (putF "_tail" (.ref t) (putF "_gaps" (.ref g) []))))
    have npo : p ≠ o := ne_of_none (upd_same (H := upd (upd H2 g (.lst (gs.map V.int))) p (.ins C dx (putF "_gaps" (.ref g) []))) (a := p)) ho
    have ngo : g ≠ o := by
      refine ne_of_none (H := upd (upd (upd H2 g (.lst (gs.map V.int))) p (.ins C dx (putF "_gaps" (.ref g) []))) p (.ins C dx (putF "_tail" (.ref t) (putF "_gaps" (.ref g) [])))) (o := .lst (gs.map V.int)) ?_ ho
      rw [upd_ne npg.symm, upd_ne npg.symm, upd_same]
    have hoH : H o = none := by
      refine S.free ?_
      rw [upd_ne npo.symm, upd_ne npo.symm, upd_ne ngo.symm] at ho
      exact ho
    refine ⟨_, rfl, p, C, dx, _, rfl, hp3, T.cl, T.nO, (by show 2 < 1000; decide), ?_⟩
    refine k g o _ hg hoH (fun b u e nb => ?_) ⟨⟨dx, upd_same⟩, ?_, ?_, ?_, okG, okT⟩
    · rw [upd_ne nb]
      refine S3 _ _ ?_
      rw [upd_ne nb, upd_ne nb, upd_ne (ne_of_none e hg)]
      exact S _ _ e
    · rw [upd_ne npg.symm]
      refine S3 _ _ ?_
      rw [upd_ne npg.symm, upd_ne npg.symm, upd_same]
    · rw [upd_ne npt]
      refine S3 _ _ ?_
      rw [upd_ne npt, upd_ne npt, upd_ne ntg]
      exact S _ _ ht
    · rw [upd_ne npo.symm]
      exact ho3

end
end RS
namespace RS
open PySem L2
section
variable {P : Program} {w : World} {K : PySem.W.Frag} {mg : Str → Option Value} {base : Heap}
/-! ### attempts, _first_repeating, period -/
def attV (gs : List Int) : Tl → V
  | .fin => .int ((gs.length : Int) + 1)
  | _ => .non
def spAtt (C : Addr) : Sp := fun vs H Q _ => ∃ (p g t o : Addr) (gs : List Int) (tl : Tl), vs = [.ref p] ∧ RuleAt C H p g t o gs tl ∧ Q (attV gs tl) H
theorem scSelf_attempts : FnScope ["self"] ["self"] (defScope s_Rule_attempts) := ⟨rfl, rfl, rfl, by decide +kernel, rfl, by decide +kernel, by decide +kernel⟩
theorem ok_attempts {f C : Addr} {fd : FuncData} (F : Fun K "attempts" "Rule.attempts" s_Rule_attempts f fd) (T : Txt K mg C) : FnOk P w K mg base CX0 1 f fd ["self"] (spAtt C) := by
  refine F.ok scSelf_attempts (fun vs H Q E h => ?_) (fun cdv A outer s H vs Q E hr h => ?_)
  · obtain ⟨p, g, t, o, gs, tl, rfl, _⟩ := h
    rfl
  · obtain ⟨p, g, t, o, gs, tl, rfl, R, k⟩ := h
    refine ⟨_, (pss_cons (ps_if (pt_cmpR op_eq (pe_ix ix_tup (pe_fld (pv 0) rfl) pe_int (fun _ _ => rfl)) pe_str (nomark _)) (pss_one (ps_ret (pe_callB call_len_seq (by rfl) T.len (by decide +kernel) (pa_cons (pe_fld (pv 0) rfl) pa_nil)))) pss_nil) (pss_one (ps_ret pe_non))), ?_⟩
    refine rdIs T R rfl ?_
    cases tl with
    | fin =>
      refine iteTb wEE ?_
      refine rdO T R rfl ⟨o, _, rfl, .inl (SqL.of R.ho), ?_⟩
      rw [List.length_map, offs_len]
      exact k
    | times b => exact iteFb wTE k
    | rep m => exact iteFb wRE k
def spFR (C : Addr) : Sp := fun vs H Q _ => ∃ (p g t o : Addr) (gs : List Int) (m : Nat), vs = [.ref p] ∧ RuleAt C H p g t o gs (.rep m) ∧ Q (.int ((gs.length - m : Nat) : Int)) H
theorem scSelf_fr : FnScope ["self"] ["self"] (defScope s_Rule_first_repeating) := ⟨rfl, rfl, rfl, by decide +kernel, rfl, by decide +kernel, by decide +kernel⟩
def frV (gs : List Int) : Tl → V
  | .rep m => .int ((gs.length - m : Nat) : Int)
  | _ => .non
def spFRA (C : Addr) : Sp := fun vs H Q _ => ∃ (p g t o : Addr) (gs : List Int) (tl : Tl), vs = [.ref p] ∧ RuleAt C H p g t o gs tl ∧ Q (frV gs tl) H
theorem ok_frA {f C : Addr} {fd : FuncData} (F : Fun K "first_repeating" "Rule.first_repeating" s_Rule_first_repeating f fd) (T : Txt K mg C) : FnOk P w K mg base CX0 1 f fd ["self"] (spFRA C) := by
  refine F.ok scSelf_fr (fun vs H Q E h => ?_) (fun cdv A outer s H vs Q E hr h => ?_)
  · obtain ⟨p, g, t, o, gs, tl, rfl, _⟩ := h
    rfl
  · obtain ⟨p, g, t, o, gs, tl, rfl, R, k⟩ := h
    refine ⟨_, (pss_cons (ps_if (pt_cmpR op_ne (pe_ix ix_tup (pe_fld (pv 0) rfl) pe_int (fun _ _ => rfl)) pe_str (nomark _)) (pss_one (ps_ret pe_non)) pss_nil) (pss_one (ps_ret (pe_op op_sub (pe_callB call_len_seq (by rfl) T.len (by decide +kernel) (pa_cons (pe_fld (pv 0) rfl) pa_nil)) (pe_ix ix_tup (pe_fld (pv 0) rfl) pe_int (fun _ _ => rfl)))))), ?_⟩
    refine rdNe T R rfl ?_
    cases tl with
    | fin => exact iteTb (congrArg not wER) k
    | times b => exact iteTb (congrArg not wTR) k
    | rep m =>
      refine iteFb (congrArg not wRR) ?_
      refine rdG T R rfl ⟨g, _, rfl, .inl (SqL.of R.hg), rdN T R rfl ⟨_, _, rfl, rfl, ?_⟩⟩
      have e : ((((gs.map V.int).length : Nat) : Int) - (m : Int)) = ((gs.length - m : Nat) : Int) := by
        have := R.okT.2
        rw [List.length_map]
        omega
      have k' : Q (.int ((gs.length - m : Nat) : Int)) H := k
      rw [← e] at k'
      exact k'
theorem ok_fr {f C : Addr} {fd : FuncData} (F : Fun K "first_repeating" "Rule.first_repeating" s_Rule_first_repeating f fd) (T : Txt K mg C) : FnOk P w K mg base CX0 1 f fd ["self"] (spFR C) := by
  refine F.ok scSelf_fr (fun vs H Q E h => ?_) (fun cdv A outer s H vs Q E hr h => ?_)
  · obtain ⟨p, g, t, o, gs, tl, rfl, _⟩ := h
    rfl
  · obtain ⟨p, g, t, o, gs, m, rfl, R, k⟩ := h
    refine ⟨_, (pss_cons (ps_if (pt_cmpR op_ne (pe_ix ix_tup (pe_fld (pv 0) rfl) pe_int (fun _ _ => rfl)) pe_str (nomark _)) (pss_one (ps_ret pe_non)) pss_nil) (pss_one (ps_ret (pe_op op_sub (pe_callB call_len_seq (by rfl) T.len (by decide +kernel) (pa_cons (pe_fld (pv 0) rfl) pa_nil)) (pe_ix ix_tup (pe_fld (pv 0) rfl) pe_int (fun _ _ => rfl)))))), ?_⟩
    refine rdNe T R rfl (iteFb (congrArg not wRR) ?_)
    refine rdG T R rfl ⟨g, _, rfl, .inl (SqL.of R.hg), rdN T R rfl ⟨_, _, rfl, rfl, ?_⟩⟩
    have e : ((((gs.map V.int).length : Nat) : Int) - (m : Int)) = ((gs.length - m : Nat) : Int) := by
      have := R.okT.2
      rw [List.length_map]
      omega
    rw [← e] at k
    exact k
end
end RS
namespace RS
open PySem L2
section
variable {P : Program} {w : World} {K : PySem.W.Frag} {mg : Str → Option Value} {base : Heap}
def perV (gs : List Int) : Tl → V
  | .rep m => .int (per gs m)
  | _ => .non
def spPer (C : Addr) : Sp := fun vs H Q _ => ∃ (p g t o : Addr) (gs : List Int) (tl : Tl), vs = [.ref p] ∧ RuleAt C H p g t o gs tl ∧ Q (perV gs tl) H
theorem scSelf_per : FnScope ["self"] ["self"] (defScope s_Rule_period) := ⟨rfl, rfl, rfl, by decide +kernel, rfl, by decide +kernel, by decide +kernel⟩
theorem ok_per {f C fR : Addr} {fd fdR : FuncData} (F : Fun K "period" "Rule.period" s_Rule_period f fd) (T : Txt K mg C) (FR : Fun K "first_repeating" "Rule.first_repeating" s_Rule_first_repeating fR fdR) (bR : Binds K fdR ["self"] []) (mR : Meth K C "first_repeating" fR) : FnOk P w K mg base CX0 2 f fd ["self"] (spPer C) := by
  have GR : FnOk P w K mg base CX0 1 fR fdR ["self"] (spFR C) := ok_fr FR T
  refine F.ok scSelf_per (fun vs H Q E h => ?_) (fun cdv A outer s H vs Q E hr h => ?_)
  · obtain ⟨p, g, t, o, gs, tl, rfl, _⟩ := h
    rfl
  · obtain ⟨p, g, t, o, gs, tl, rfl, R, k⟩ := h
    refine ⟨_, (pss_cons (ps_if (pt_cmpR op_ne (pe_ix ix_tup (pe_fld (pv 0) rfl) pe_int (fun _ _ => rfl)) pe_str (nomark _)) (pss_one (ps_ret pe_non)) pss_nil) (pss_one (ps_ret (pe_op op_sub (pe_ix ix_list (pe_fld (pv 0) rfl) (pe_un un_neg pe_int) (fun _ _ => rfl)) (pe_ix ix_list (pe_fld (pv 0) rfl) (pe_meth0 (pv 0) T.cl mR GR hr bR .nil pass0) (fun _ _ => rfl)))))), ?_⟩
    refine rdNe T R rfl ?_
    cases tl with
    | fin => exact iteTb (congrArg not wER) k
    | times b => exact iteTb (congrArg not wTR) k
    | rep m =>
      refine iteFb (congrArg not wRR) ?_
      refine rdLastO T R rfl (rdO T R rfl ?_)
      obtain ⟨dx, hob⟩ := R.ob
      refine ⟨_, rfl, p, dx, _, rfl, hob, flds_no _ _ _ (by decide +kernel) (by decide +kernel) (by decide +kernel), p, g, t, o, gs, m, rfl, R, ?_⟩
      exact ⟨o, _, _, _, rfl, rfl, SqL.of R.ho, at_map (offs_get gs (by omega)), _, _, rfl, rfl, k⟩
end
end RS
namespace RS
open PySem L2
section
variable {P : Program} {w : World} {K : PySem.W.Frag} {mg : Str → Option Value} {base : Heap}
/-! ### Rule.gaps, tail, least_gap -/
def spGaps (C : Addr) : Sp := fun vs H Q _ => ∃ (p g t o : Addr) (gs : List Int) (tl : Tl), vs = [.ref p] ∧ RuleAt C H p g t o gs tl ∧ ∀ l, H l = none → Q (.ref l) (upd H l (.lst (gs.map V.int)))
theorem scGaps : FnScope ["self"] ["self"] (defScope s_Rule_gaps) := ⟨rfl, rfl, rfl, by decide +kernel, rfl, by decide +kernel, by decide +kernel⟩
theorem ok_gaps {f C : Addr} {fd : FuncData} (F : Fun K "gaps" "Rule.gaps" s_Rule_gaps f fd) (T : Txt K mg C) : FnOk P w K mg base CX0 1 f fd ["self"] (spGaps C) := by
  refine F.ok scGaps (fun vs H Q E h => ?_) (fun cdv A outer s H vs Q E hr h => ?_)
  · obtain ⟨p, g, t, o, gs, tl, rfl, _⟩ := h
    rfl
  · obtain ⟨p, g, t, o, gs, tl, rfl, R, k⟩ := h
    refine ⟨_, (pss_one (ps_ret (pe_callTy call_list_of (by rfl) T.list (by decide +kernel) (pa_cons (pe_fld (pv 0) rfl) pa_nil)))), ?_⟩
    exact rdG T R rfl ⟨g, _, rfl, .inl (SqL.of R.hg), k⟩
def spTail (C : Addr) : Sp := fun vs H Q _ => ∃ (p g t o : Addr) (gs : List Int) (tl : Tl), vs = [.ref p] ∧ RuleAt C H p g t o gs tl ∧ Q (.ref t) H
theorem scTail : FnScope ["self"] ["self"] (defScope s_Rule_tail) := ⟨rfl, rfl, rfl, by decide +kernel, rfl, by decide +kernel, by decide +kernel⟩
theorem ok_tail {f C : Addr} {fd : FuncData} (F : Fun K "tail" "Rule.tail" s_Rule_tail f fd) (T : Txt K mg C) : FnOk P w K mg base CX0 1 f fd ["self"] (spTail C) := by
  refine F.ok scTail (fun vs H Q E h => ?_) (fun cdv A outer s H vs Q E hr h => ?_)
  · obtain ⟨p, g, t, o, gs, tl, rfl, _⟩ := h
    rfl
  · obtain ⟨p, g, t, o, gs, tl, rfl, R, k⟩ := h
    refine ⟨_, (pss_one (ps_ret (pe_fld (pv 0) rfl))), ?_⟩
    exact rdT T R rfl k
end
end RS
namespace RS
open PySem L2
section
variable {P : Program} {w : World} {K : PySem.W.Frag} {mg : Str → Option Value} {base : Heap}
theorem end_cmp {p : Prop} [Decidable p] {A B : Prop} (hp : ¬ p) (h : B) : if decide p = true then A else B := iteFb (decide_eq_false hp) h
/-! ### _check_attempt -/
def spCheck (C : Addr) : Sp := fun vs H Q _ => ∃ (p g t o : Addr) (gs : List Int) (tl : Tl) (n : Nat), vs = [.ref p, .int (n : Int)] ∧ RuleAt C H p g t o gs tl ∧ AttOk gs tl n ∧ Q .non H
theorem scCheck : FnScope ["self", "attempt"] ["self", "attempt"] (defScope s_Rule_check_attempt) := ⟨rfl, rfl, rfl, by decide +kernel, rfl, by decide +kernel, by decide +kernel⟩
theorem ok_check {f C fi : Addr} {fd fdi : FuncData} (F : Fun K "_check_attempt" "Rule._check_attempt" s_Rule_check_attempt f fd) (T : Txt K mg C) (FI : Fun K "is_integer" "is_integer" s_is_integer fi fdi) (bI : Binds K fdi ["value"] []) (mI : mg "is_integer" = some (.ref fi)) :
    FnOk P w K mg base CX0 2 f fd ["self", "attempt"] (spCheck C) := by
  have GI : FnOk P w K mg base CX0 1 fi fdi ["value"] spIsInt := ok_isInt FI T
  obtain ⟨t1, m1⟩ := T.mLast
  refine F.ok scCheck (fun vs H Q E h => ?_) (fun cdv A outer s H vs Q E hr h => ?_)
  · obtain ⟨p, g, t, o, gs, tl, n, rfl, _⟩ := h
    rfl
  · obtain ⟨p, g, t, o, gs, tl, n, rfl, R, ok, k⟩ := h
    refine ⟨_, (pss_cons (ps_if (PW.pt (pw_or (pt_not (pt_val (pe_call GI hr rfl mI FI.kp bI .nil pass0 (pa_cons (pv 1) pa_nil)))) (pw_or1 (pt_cmpR op_lt (pv 1) pe_int (nomark _))))) (pss_one ps_never) pss_nil) (pss_cons (ps_if (PW.pt (pw_and (pt_cmpR op_eq (pe_ix ix_tup (pe_fld (pv 0) rfl) pe_int (fun _ _ => rfl)) pe_str (nomark _)) (pw_and1 (pt_cmpR op_ge (pv 1) (pe_callB call_len_seq (by rfl) T.len (by decide +kernel) (pa_cons (pe_fld (pv 0) rfl) pa_nil)) (nomark _))))) (pss_one ps_never) pss_nil) (pss_one (ps_if (PW.pt (pw_and (pt_cmpR op_eq (pe_ix ix_tup (pe_fld (pv 0) rfl) pe_int (fun _ _ => rfl)) pe_str (nomark _)) (pw_and1 (pt_cmpR op_gt (pv 1) (pe_glob (v := .int 1000) rfl m1 ⟨_, rfl⟩) (nomark _))))) (pss_one ps_never) pss_nil)))), ?_⟩
    refine ⟨_, rfl, _, rfl, true, rfl, iteF ⟨_, rfl, _, _, rfl, rfl, _, rfl, iteFb (decide_eq_false (by omega)) ?_⟩⟩
    refine rdIs T R rfl ?_
    cases tl with
    | fin =>
      refine iteTb wEE ?_
      refine ⟨_, rfl, rdO T R rfl ⟨o, _, rfl, .inl (SqL.of R.ho), _, _, rfl, rfl, _, rfl, iteFb (decide_eq_false ?_) ?_⟩⟩
      · rw [List.length_map, offs_len]
        have : n ≤ gs.length := ok
        omega
      · exact rdIs T R rfl (iteFb wET (iteF k))
    | times b =>
      refine iteFb wTE ?_
      refine iteF ?_
      refine rdIs T R rfl (iteTb wTT ⟨_, rfl, _, _, rfl, rfl, _, rfl, iteFb (decide_eq_false ?_) k⟩)
      have : n ≤ 1000 := ok
      omega
    | rep m =>
      refine iteFb wRE ?_
      refine iteF ?_
      exact rdIs T R rfl (iteFb wRT (iteF k))
/-! ### _offset_of -/
def spOff (C : Addr) : Sp := fun vs H Q _ => ∃ (p g t o : Addr) (gs : List Int) (tl : Tl) (n : Nat), vs = [.ref p, .int (n : Int)] ∧ RuleAt C H p g t o gs tl ∧ AttOk gs tl n ∧ ∀ H', Same H H' → Q (.int (off gs tl n)) H'
theorem scOff : FnScope ["self", "attempt", "further", "factor", "periods", "rest"] ["self", "attempt"] (defScope s_Rule_offset_of) := ⟨rfl, rfl, rfl, by decide +kernel, rfl, by decide +kernel, by decide +kernel⟩
theorem ok_off {f C fR fP fW : Addr} {fd fdR fdP fdW : FuncData} (F : Fun K "_offset_of" "Rule._offset_of" s_Rule_offset_of f fd) (T : Txt K mg C) (FR : Fun K "first_repeating" "Rule.first_repeating" s_Rule_first_repeating fR fdR) (bR : Binds K fdR ["self"] []) (mR : Meth K C "first_repeating" fR)
    (FP : Fun K "period" "Rule.period" s_Rule_period fP fdP) (bP : Binds K fdP ["self"] []) (mP : Meth K C "period" fP) (FW : Fun K "_power" "_power" s_power fW fdW) (bW : Binds K fdW ["base", "exponent"] []) (mW : mg "_power" = some (.ref fW)) :
    FnOk P w K mg base CX0 3 f fd ["self", "attempt"] (spOff C) := by
  have GR : FnOk P w K mg base CX0 1 fR fdR ["self"] (spFR C) := ok_fr FR T
  have GP : FnOk P w K mg base CX0 2 fP fdP ["self"] (spPer C) := ok_per FP T FR bR mR
  have GW : FnOk P w K mg base CX0 1 fW fdW ["base", "exponent"] spPower := ok_power FW
  refine F.ok scOff (fun vs H Q E h => ?_) (fun cdv A outer s H vs Q E hr h => ?_)
  · obtain ⟨p, g, t, o, gs, tl, n, rfl, _⟩ := h
    rfl
  · obtain ⟨p, g, t, o, gs, tl, n, rfl, R, ok, k⟩ := h
    have hr1 := hr.mono (show 1 ≤ 2 by decide)
    refine ⟨_, (pss_cons (ps_if (pt_cmpR op_lt (pv 1) (pe_callB call_len_seq (by rfl) T.len (by decide +kernel) (pa_cons (pe_fld (pv 0) rfl) pa_nil)) (nomark _)) (pss_one (ps_ret (pe_ix ix_list (pe_fld (pv 0) rfl) (pv 1) (fun _ _ => rfl)))) pss_nil) (pss_cons (ps_set (i := 2) scOff.nd rfl (Or.inl rfl) (pe_op op_sub (pv 1) (pe_callB call_len_seq (by rfl) T.len (by decide +kernel) (pa_cons (pe_fld (pv 0) rfl) pa_nil)))) (pss_cons (ps_if (pt_cmpR op_eq (pe_ix ix_tup (pe_fld (pv 0) rfl) pe_int (fun _ _ => rfl)) pe_str (nomark _)) (pss_cons (ps_set (i := 3) scOff.nd rfl (Or.inl rfl) (pe_ix ix_tup (pe_fld (pv 0) rfl) pe_int (fun _ _ => rfl))) (pss_one (ps_ret (pe_op op_add (pe_ix ix_list (pe_fld (pv 0) rfl) (pe_un un_neg pe_int) (fun _ _ => rfl)) (pe_op op_fdiv (pe_op op_mul (pe_op op_mul (pe_ix ix_list (pe_fld (pv 0) rfl) (pe_un un_neg pe_int) (fun _ _ => rfl)) (pv 3)) (pe_op op_sub (pe_call GW hr1 rfl mW FW.kp bW .nil pass0 (pa_cons (pv 3) (pa_cons (pv 2) pa_nil))) pe_int)) (pe_op op_sub (pv 3) pe_int)))))) pss_nil) (pss_cons (ps_asg (pe_callB call_divmod (by rfl) T.divmod (by decide +kernel) (pa_cons (pv 2) (pa_cons (pe_ix ix_tup (pe_fld (pv 0) rfl) pe_int (fun _ _ => rfl)) pa_nil))) (pg_tup rfl (pgs_cons (pg_name (i := 4) scOff.nd rfl (Or.inl rfl)) (pgs_cons (pg_name (i := 5) scOff.nd rfl (Or.inl rfl)) pgs_nil)))) (pss_one (ps_ret (pe_op op_add (pe_ix ix_list (pe_fld (pv 0) rfl) (pe_op op_add (pe_meth0 (pv 0) T.cl mR GR hr1 bR .nil pass0) (pv 5)) (fun _ _ => rfl)) (pe_op op_mul (pe_op op_add (pv 4) pe_int) (pe_meth0 (pv 0) T.cl mP GP hr bP .nil pass0))))))))), ?_⟩
    refine ⟨_, rfl, rdO T R rfl ⟨o, _, rfl, .inl (SqL.of R.ho), _, _, rfl, rfl, _, rfl, ?_⟩⟩
    rw [List.length_map, offs_len]
    by_cases hn : n ≤ gs.length
    · refine iteTb (decide_eq_true (by omega)) ?_
      refine rdOx T R rfl ⟨_, rfl, o, _, _, _, rfl, rfl, SqL.of R.ho, at_map (offs_get gs hn), ?_⟩
      have e : off gs tl n = pre gs n := if_pos hn
      rw [← e]
      exact k H (Same.refl H)
    · refine end_cmp (by omega) ?_
      refine ⟨_, rfl, ?_⟩
      refine rdG T R rfl ⟨g, _, rfl, .inl (SqL.of R.hg), _, _, rfl, rfl, ?_⟩
      have ef : ((n : Int) - (((gs.map V.int).length : Nat) : Int)) = ((n - gs.length : Nat) : Int) := by
        rw [List.length_map]
        omega
      show tSeq _ _ _ (List.set _ 2 (some (V.int ((n : Int) - (((gs.map V.int).length : Nat) : Int))))) H
      rw [ef]
      refine rdIs T R rfl ?_
      cases tl with
      | fin => exact absurd ok hn
      | times b =>
        have hl := R.okT.1
        have hb0 := R.okT.2.1
        have hb1 := R.okT.2.2
        have hn1 : n ≤ 1000 := ok
        have hg := gap_bd R.okG (k := gs.length - 1) (by omega)
        have hg : 1 ≤ lastG gs ∧ lastG gs ≤ 1000000000000 := hg
        have hgb1 : lastG gs * b ≤ 1000000000000 * 1000 := Int.mul_le_mul hg.2 hb1 (by omega) (by omega)
        have hgb0 : 0 ≤ lastG gs * b := Int.mul_nonneg (by omega) (by omega)
        refine iteTb wTT ?_
        refine rdB T R rfl ?_
        refine rdLastO T R rfl ?_
        refine rdLast T R rfl hl ⟨_, rfl, _, _, rfl, rfl, .inl ⟨by omega, by omega⟩, ?_⟩
        refine ⟨_, rfl, _, rfl, b, n - gs.length, rfl, by omega, by omega, by omega, _, _, rfl, rfl, _, _, rfl, rfl, .inl ⟨by omega, by omega⟩, ?_⟩
        refine ⟨_, rfl, _, _, rfl, rfl, _, _, rfl, rfl, ⟨by omega, by omega⟩, _, _, rfl, rfl, ?_⟩
        have e : off gs (.times b) n = pre gs gs.length + lastG gs * b * (b ^ (n - gs.length) - 1) / (b - 1) := if_neg hn
        rw [e] at k
        exact k H (Same.refl H)
      | rep m =>
        have hm0 := R.okT.1
        have hm1 := R.okT.2
        have hp := per_bd R.okG hm0 hm1
        refine iteFb wRT ?_
        refine ⟨_, rfl, ?_⟩
        refine rdN T R rfl ⟨_, _, rfl, ⟨by omega, by have := R.okG.1; omega⟩, fun q hq => ?_⟩
        have S : Same H (upd H q (.tup [.int (((n - gs.length : Nat) : Int) / (m : Int)), .int (((n - gs.length : Nat) : Int) % (m : Int))])) := same_new hq
        have R2 := R.mono S
        refine ⟨q, _, rfl, SqT.of upd_same, rfl, _, _, rfl, _, _, rfl, rfl, ?_⟩
        obtain ⟨dx, hob⟩ := R2.ob
        have e1 : (((n - gs.length : Nat) : Int) % (m : Int)) = (((n - gs.length) % m : Nat) : Int) := rfl
        have e2 : (((n - gs.length : Nat) : Int) / (m : Int)) = (((n - gs.length) / m : Nat) : Int) := rfl
        have hr0 : (n - gs.length) % m < m := Nat.mod_lt _ (by omega)
        have nF : (flds g t o).lookup ("first_repeating" : Str) = none := flds_no _ _ _ (by decide +kernel) (by decide +kernel) (by decide +kernel)
        have nP : (flds g t o).lookup ("period" : Str) = none := flds_no _ _ _ (by decide +kernel) (by decide +kernel) (by decide +kernel)
        refine rdOx T R2 rfl ⟨_, rfl, p, dx, _, rfl, hob, nF, p, g, t, o, gs, m, rfl, R2, _, rfl, _, _, rfl, rfl, ?_⟩
        refine ⟨o, _, _, .int (pre gs (gs.length - m + (n - gs.length) % m)), rfl, rfl, SqL.of R2.ho, ?_, ?_⟩
        · rw [e1, ← Int.natCast_add]
          exact at_map (offs_get gs (by omega))
        · refine ⟨_, rfl, _, _, rfl, rfl, _, rfl, p, dx, _, rfl, hob, nP, p, g, t, o, gs, .rep m, rfl, R2, ?_⟩
          refine ⟨_, _, rfl, rfl, .inr ⟨by omega, by omega⟩, _, _, rfl, rfl, ?_⟩
          have e : off gs (.rep m) n = pre gs (gs.length - m + (n - gs.length) % m) + (((n - gs.length) / m : Nat) + 1) * per gs m := if_neg hn
          rw [e] at k
          exact k _ S
/-! ### offset -/
theorem scOffset : FnScope ["self", "attempt"] ["self", "attempt"] (defScope s_Rule_offset) := ⟨rfl, rfl, rfl, by decide +kernel, rfl, by decide +kernel, by decide +kernel⟩
theorem ok_offset {f C fC fO : Addr} {fd fdC fdO : FuncData} (F : Fun K "offset" "Rule.offset" s_Rule_offset f fd) (T : Txt K mg C) (mC : Meth K C "_check_attempt" fC) (bC : Binds K fdC ["self", "attempt"] []) (mO : Meth K C "_offset_of" fO) (bO : Binds K fdO ["self", "attempt"] [])
    (GC : FnOk P w K mg base CX0 2 fC fdC ["self", "attempt"] (spCheck C)) (GO : FnOk P w K mg base CX0 3 fO fdO ["self", "attempt"] (spOff C)) : FnOk P w K mg base CX0 4 f fd ["self", "attempt"] (spOff C) := by
  refine F.ok scOffset (fun vs H Q E h => ?_) (fun cdv A outer s H vs Q E hr h => ?_)
  · obtain ⟨p, g, t, o, gs, tl, n, rfl, _⟩ := h
    rfl
  · obtain ⟨p, g, t, o, gs, tl, n, rfl, R, ok, k⟩ := h
    refine ⟨_, (pss_cons (ps_expr (pe_meth (pv 0) T.cl mC GC (hr.mono (by decide)) bC .nil pass0 (pa_cons (pv 1) pa_nil))) (pss_one (ps_ret (pe_meth (pv 0) T.cl mO GO hr bO .nil pass0 (pa_cons (pv 1) pa_nil))))), ?_⟩
    obtain ⟨dx, hob⟩ := R.ob
    refine ⟨_, rfl, p, dx, _, rfl, hob, flds_no _ _ _ (by decide +kernel) (by decide +kernel) (by decide +kernel), _, rfl, p, g, t, o, gs, tl, n, rfl, R, ok, ?_⟩
    exact ⟨_, rfl, p, dx, _, rfl, hob, flds_no _ _ _ (by decide +kernel) (by decide +kernel) (by decide +kernel), _, rfl, p, g, t, o, gs, tl, n, rfl, R, ok, k⟩
/-! ### gap -/
def spGap (C : Addr) : Sp := fun vs H Q _ => ∃ (p g t o : Addr) (gs : List Int) (tl : Tl) (n : Nat), vs = [.ref p, .int (n : Int)] ∧ RuleAt C H p g t o gs tl ∧ AttOk gs tl n ∧ (tl = .fin → n < gs.length) ∧ Q (.int (gapf gs tl n)) H
theorem scGap : FnScope ["self", "attempt", "further"] ["self", "attempt"] (defScope s_Rule_gap) := ⟨rfl, rfl, rfl, by decide +kernel, rfl, by decide +kernel, by decide +kernel⟩
theorem ok_gap {f C fC fA fR fW : Addr} {fd fdC fdA fdR fdW : FuncData} (F : Fun K "gap" "Rule.gap" s_Rule_gap f fd) (T : Txt K mg C) (mC : Meth K C "_check_attempt" fC) (bC : Binds K fdC ["self", "attempt"] [])
    (GC : FnOk P w K mg base CX0 2 fC fdC ["self", "attempt"] (spCheck C)) (FA : Fun K "attempts" "Rule.attempts" s_Rule_attempts fA fdA) (bA : Binds K fdA ["self"] []) (mA : Meth K C "attempts" fA)
    (FR : Fun K "first_repeating" "Rule.first_repeating" s_Rule_first_repeating fR fdR) (bR : Binds K fdR ["self"] []) (mR : Meth K C "first_repeating" fR)
    (FW : Fun K "_power" "_power" s_power fW fdW) (bW : Binds K fdW ["base", "exponent"] []) (mW : mg "_power" = some (.ref fW)) : FnOk P w K mg base CX0 3 f fd ["self", "attempt"] (spGap C) := by
  have GA : FnOk P w K mg base CX0 1 fA fdA ["self"] (spAtt C) := ok_attempts FA T
  have GR : FnOk P w K mg base CX0 1 fR fdR ["self"] (spFR C) := ok_fr FR T
  have GW : FnOk P w K mg base CX0 1 fW fdW ["base", "exponent"] spPower := ok_power FW
  refine F.ok scGap (fun vs H Q E h => ?_) (fun cdv A outer s H vs Q E hr h => ?_)
  · obtain ⟨p, g, t, o, gs, tl, n, rfl, _⟩ := h
    rfl
  · obtain ⟨p, g, t, o, gs, tl, n, rfl, R, ok, okf, k⟩ := h
    have hr1 := hr.mono (show 1 ≤ 2 by decide)
    refine ⟨_, (pss_cons (ps_expr (pe_meth (pv 0) T.cl mC GC hr bC .nil pass0 (pa_cons (pv 1) pa_nil))) (pss_cons (ps_if (pt_cmpR op_eq (pe_op op_add (pv 1) pe_int) (pe_meth0 (pv 0) T.cl mA GA hr1 bA .nil pass0) (nomark _)) (pss_one ps_never) pss_nil) (pss_cons (ps_if (pt_cmpR op_lt (pv 1) (pe_callB call_len_seq (by rfl) T.len (by decide +kernel) (pa_cons (pe_fld (pv 0) rfl) pa_nil)) (nomark _)) (pss_one (ps_ret (pe_ix ix_list (pe_fld (pv 0) rfl) (pv 1) (fun _ _ => rfl)))) pss_nil) (pss_cons (ps_set (i := 2) scGap.nd rfl (Or.inl rfl) (pe_op op_sub (pv 1) (pe_callB call_len_seq (by rfl) T.len (by decide +kernel) (pa_cons (pe_fld (pv 0) rfl) pa_nil)))) (pss_cons (ps_if (pt_cmpR op_eq (pe_ix ix_tup (pe_fld (pv 0) rfl) pe_int (fun _ _ => rfl)) pe_str (nomark _)) (pss_one (ps_ret (pe_op op_mul (pe_ix ix_list (pe_fld (pv 0) rfl) (pe_un un_neg pe_int) (fun _ _ => rfl)) (pe_call GW hr1 rfl mW FW.kp bW .nil pass0 (pa_cons (pe_ix ix_tup (pe_fld (pv 0) rfl) pe_int (fun _ _ => rfl)) (pa_cons (pe_op op_add (pv 2) pe_int) pa_nil)))))) pss_nil) (pss_one (ps_ret (pe_ix ix_list (pe_fld (pv 0) rfl) (pe_op op_add (pe_meth0 (pv 0) T.cl mR GR hr1 bR .nil pass0) (pe_op op_mod (pv 2) (pe_ix ix_tup (pe_fld (pv 0) rfl) pe_int (fun _ _ => rfl)))) (fun _ _ => rfl))))))))), ?_⟩
    obtain ⟨dx, hob⟩ := R.ob
    have nF : (flds g t o).lookup ("first_repeating" : Str) = none := flds_no _ _ _ (by decide +kernel) (by decide +kernel) (by decide +kernel)
    have nA : (flds g t o).lookup ("attempts" : Str) = none := flds_no _ _ _ (by decide +kernel) (by decide +kernel) (by decide +kernel)
    refine ⟨_, rfl, p, dx, _, rfl, hob, flds_no _ _ _ (by decide +kernel) (by decide +kernel) (by decide +kernel), _, rfl, p, g, t, o, gs, tl, n, rfl, R, ok, ?_⟩
    refine ⟨_, rfl, _, _, rfl, rfl, _, rfl, p, dx, _, rfl, hob, nA, p, g, t, o, gs, tl, rfl, R, ?_⟩
    have hsc : scal (V.int ((n : Int) + 1)) (attV gs tl) = true := by cases tl <;> rfl
    have hne : decide (V.int ((n : Int) + 1) = attV gs tl) = false := by
      cases tl with
      | fin =>
        have := okf rfl
        refine decide_eq_false fun e => ?_
        have := V.int.inj e
        omega
      | times b => exact decide_eq_false fun e => by cases e
      | rep m => exact decide_eq_false fun e => by cases e
    refine ⟨hsc, _, rfl, iteFb hne ?_⟩
    refine ⟨_, rfl, rdG T R rfl ⟨g, _, rfl, .inl (SqL.of R.hg), _, _, rfl, rfl, _, rfl, ?_⟩⟩
    rw [List.length_map]
    by_cases hn : n < gs.length
    · refine iteTb (decide_eq_true (by omega)) ?_
      refine rdGx T R rfl ⟨_, rfl, g, _, _, _, rfl, rfl, SqL.of R.hg, at_map (getD_get hn), ?_⟩
      have e : gapf gs tl n = gs.getD n 0 := if_pos hn
      rw [← e]
      exact k
    · refine end_cmp (by omega) ?_
      refine ⟨_, rfl, ?_⟩
      refine rdG T R rfl ⟨g, _, rfl, .inl (SqL.of R.hg), _, _, rfl, rfl, ?_⟩
      have ef : ((n : Int) - (((gs.map V.int).length : Nat) : Int)) = ((n - gs.length : Nat) : Int) := by
        rw [List.length_map]
        omega
      show tSeq _ _ _ (List.set _ 2 (some (V.int ((n : Int) - (((gs.map V.int).length : Nat) : Int))))) H
      rw [ef]
      refine rdIs T R rfl ?_
      cases tl with
      | fin => exact absurd (okf rfl) hn
      | times b =>
        have hl := R.okT.1
        have hb0 := R.okT.2.1
        have hb1 := R.okT.2.2
        have hn1 : n ≤ 1000 := ok
        have hg := gap_bd R.okG (k := gs.length - 1) (by omega)
        have hg : 1 ≤ lastG gs ∧ lastG gs ≤ 1000000000000 := hg
        refine iteTb wTT ?_
        refine rdLast T R rfl hl ?_
        refine rdB T R rfl ⟨_, rfl, _, _, rfl, rfl, b, n - gs.length + 1, ?_, by omega, by omega, by omega, _, _, rfl, rfl, .inl ⟨by omega, by omega⟩, ?_⟩
        · rfl
        · have e : gapf gs (.times b) n = lastG gs * b ^ (n - gs.length + 1) := if_neg hn
          rw [e] at k
          exact k
      | rep m =>
        have hm0 := R.okT.1
        have hm1 := R.okT.2
        have hr0 : (n - gs.length) % m < m := Nat.mod_lt _ (by omega)
        refine iteFb wRT ?_
        refine rdGx T R rfl ⟨_, rfl, p, dx, _, rfl, hob, nF, p, g, t, o, gs, m, rfl, R, _, rfl, ?_⟩
        refine rdN T R rfl ⟨_, _, rfl, rfl, by omega, _, _, rfl, rfl, ?_⟩
        refine ⟨g, _, _, .int (gs.getD (gs.length - m + (n - gs.length) % m) 0), rfl, rfl, SqL.of R.hg, ?_, ?_⟩
        · rw [← Int.natCast_emod, ← Int.natCast_add]
          exact at_map (getD_get (by omega))
        · have e : gapf gs (.rep m) n = gs.getD (gs.length - m + (n - gs.length) % m) 0 := if_neg hn
          rw [e] at k
          exact k
end
end RS
namespace RS
open PySem L2
/-! ### the mathematics of offsets and gaps -/
def geo (b : Int) : Nat → Int
  | 0 => 0
  | k + 1 => geo b k + b ^ k
theorem geo_eq (b : Int) : ∀ k, b ^ k - 1 = (b - 1) * geo b k
  | 0 => by simp [geo]
  | k + 1 => by
    rw [geo, Int.mul_add, ← geo_eq b k, Int.pow_succ, Int.sub_mul, Int.one_mul, Int.mul_comm b (b ^ k)]
    omega
theorem geo_div {b : Int} (h : 2 ≤ b) (x : Int) (k : Nat) : x * (b ^ k - 1) / (b - 1) = x * geo b k := by
  rw [geo_eq, ← Int.mul_assoc, Int.mul_comm x (b - 1), Int.mul_assoc]
  exact Int.mul_ediv_cancel_left _ (by omega)
theorem off_low {gs : List Int} {tl : Tl} {n : Nat} (h : n ≤ gs.length) : off gs tl n = pre gs n := if_pos h
theorem off_times {gs : List Int} {b : Int} (h2 : 2 ≤ b) {n : Nat} (h : gs.length ≤ n) : off gs (.times b) n = pre gs gs.length + lastG gs * b * geo b (n - gs.length) := by
  by_cases e : n = gs.length
  · subst e
    rw [off_low (Nat.le_refl _), Nat.sub_self]
    simp [geo]
  · have e1 : off gs (.times b) n = pre gs gs.length + lastG gs * b * (b ^ (n - gs.length) - 1) / (b - 1) := if_neg (by omega)
    rw [e1, geo_div h2]
theorem off_rep {gs : List Int} {m : Nat} (h1 : 1 ≤ m) (h2 : m ≤ gs.length) {n : Nat} (h : gs.length ≤ n) : off gs (.rep m) n = pre gs (gs.length - m + (n - gs.length) % m) + (((n - gs.length) / m : Nat) + 1) * per gs m := by
  by_cases e : n = gs.length
  · subst e
    rw [off_low (Nat.le_refl _), Nat.sub_self, Nat.zero_mod, Nat.zero_div]
    unfold per
    simp
    omega
  · exact if_neg (by omega)
theorem gap_low {gs : List Int} {tl : Tl} {n : Nat} (h : n < gs.length) : gapf gs tl n = gs.getD n 0 := if_pos h
theorem gap_times {gs : List Int} {b : Int} {n : Nat} (h : gs.length ≤ n) : gapf gs (.times b) n = lastG gs * b ^ (n - gs.length + 1) := if_neg (by omega)
theorem gap_rep {gs : List Int} {m n : Nat} (h : gs.length ≤ n) : gapf gs (.rep m) n = gs.getD (gs.length - m + (n - gs.length) % m) 0 := if_neg (by omega)
theorem pre_succD {gs : List Int} {k : Nat} (h : k < gs.length) : pre gs (k + 1) = pre gs k + gs.getD k 0 := pre_succ gs (getD_get h)
/-- the next attempt lies one gap later -/
theorem off_succ {gs : List Int} {tl : Tl} (ok : TlOk gs.length tl) {n : Nat} (hf : tl = .fin → n < gs.length) : off gs tl (n + 1) = off gs tl n + gapf gs tl n := by
  by_cases h : n < gs.length
  · rw [off_low (by omega), off_low (by omega), gap_low h, pre_succD h]
  · cases tl with
    | fin => exact absurd (hf rfl) h
    | times b =>
      have h2 := ok.2.1
      rw [off_times h2 (by omega), off_times h2 (by omega), gap_times (by omega), show n + 1 - gs.length = (n - gs.length) + 1 by omega, geo, Int.mul_add, Int.pow_succ, Int.mul_assoc, Int.mul_assoc, Int.mul_comm (b ^ (n - gs.length)) b]
      omega
    | rep m =>
      have h1 : 1 ≤ m := ok.1
      have h2 : m ≤ gs.length := ok.2
      rw [off_rep h1 h2 (by omega), off_rep h1 h2 (by omega), gap_rep (by omega)]
      generalize hd : n - gs.length = d
      rw [show n + 1 - gs.length = d + 1 by omega]
      have hr : d % m < m := Nat.mod_lt _ (by omega)
      have e0 : m * (d / m) + d % m = d := Nat.div_add_mod d m
      by_cases hl : d % m + 1 < m
      · have e1 : (d + 1) % m = d % m + 1 := by
          rw [← e0, show m * (d / m) + d % m + 1 = (d % m + 1) + m * (d / m) by omega, Nat.add_mul_mod_self_left, Nat.mod_eq_of_lt hl, Nat.add_comm (m * (d / m)), Nat.add_mul_mod_self_left, Nat.mod_mod]
        have e2 : (d + 1) / m = d / m := by
          have h3 := Nat.div_add_mod (d + 1) m
          rw [e1] at h3
          have h4 : m * ((d + 1) / m) = m * (d / m) := by omega
          exact Nat.eq_of_mul_eq_mul_left (by omega) h4
        rw [e1, e2, show gs.length - m + (d % m + 1) = (gs.length - m + d % m) + 1 by omega, pre_succD (by omega)]
        omega
      · have e1 : d + 1 = m * (d / m + 1) := by
          rw [Nat.mul_add, Nat.mul_one]
          omega
        rw [e1, Nat.mul_mod_right, Nat.mul_div_cancel_left _ (by omega), show d % m = m - 1 by omega]
        have e3 : pre gs gs.length = pre gs (gs.length - m + (m - 1)) + gs.getD (gs.length - m + (m - 1)) 0 := by
          rw [← pre_succD (by omega), show gs.length - m + (m - 1) + 1 = gs.length by omega]
        have e4 : per gs m = pre gs gs.length - pre gs (gs.length - m) := rfl
        have e5 : ((d / m + 1 : Nat) + 1 : Int) * per gs m = ((d / m : Nat) + 1 : Int) * per gs m + per gs m := by
          rw [Int.natCast_add, Int.add_mul, Int.natCast_one, Int.one_mul]
        rw [e5, Nat.add_zero]
        omega
theorem gap_grow {gs : List Int} {b : Int} (h0 : 0 < gs.length) {n : Nat} (h : gs.length ≤ n) : gapf gs (.times b) n = gapf gs (.times b) (n - 1) * b := by
  rw [gap_times h]
  by_cases e : n = gs.length
  · subst e
    rw [gap_low (by omega), Nat.sub_self]
    show lastG gs * b ^ 1 = lastG gs * b
    rw [Int.pow_succ, Int.pow_zero, Int.one_mul]
  · rw [gap_times (by omega), show n - gs.length + 1 = (n - 1 - gs.length + 1) + 1 by omega, Int.pow_succ, Int.mul_assoc]
theorem off_later {gs : List Int} {m : Nat} (h1 : 1 ≤ m) (h2 : m ≤ gs.length) (a t : Nat) : off gs (.rep m) (a + gs.length + m * t) = off gs (.rep m) (a + gs.length) + (t : Int) * per gs m := by
  rw [off_rep h1 h2 (by omega), off_rep h1 h2 (by omega), show a + gs.length + m * t - gs.length = a + m * t by omega, show a + gs.length - gs.length = a by omega, Nat.add_mul_mod_self_left, Nat.add_mul_div_left _ _ (by omega), Int.natCast_add]
  rw [Int.add_mul, Int.add_mul, Int.add_mul]
  omega
theorem sum_take_drop (gs : List Int) (k : Nat) : (gs.take k).sum + (gs.drop k).sum = gs.sum := by
  rw [← List.sum_append, List.take_append_drop]
theorem per_sum {gs : List Int} (m : Nat) : (gs.drop (gs.length - m)).sum = per gs m := by
  have h := sum_take_drop gs (gs.length - m)
  have e : pre gs gs.length = gs.sum := by unfold pre; rw [List.take_length]
  unfold per
  rw [e]
  unfold pre
  omega
end RS
namespace RS
open PySem L2
/-! ### the offsets that the law computes gap by gap -/
theorem gap_back {gs : List Int} {m : Nat} (h1 : 1 ≤ m) (h2 : m ≤ gs.length) {j : Nat} (h : gs.length ≤ j) : gapf gs (.rep m) j = gapf gs (.rep m) (j - m) := by
  rw [gap_rep h]
  by_cases e : gs.length ≤ j - m
  · rw [gap_rep e, show j - gs.length = (j - m - gs.length) + m * 1 by omega, Nat.add_mul_mod_self_left]
  · rw [gap_low (by omega), Nat.mod_eq_of_lt (by omega), show gs.length - m + (j - gs.length) = j - m by omega]
def manyN (gs : List Int) : Tl → Nat
  | .fin => gs.length + 1
  | _ => 60
theorem manyN_bd {gs : List Int} (h : gs.length ≤ 20) : ∀ tl : Tl, 1 ≤ manyN gs tl ∧ manyN gs tl ≤ 60
  | .fin => ⟨show 1 ≤ gs.length + 1 by omega, show gs.length + 1 ≤ 60 by omega⟩
  | .times _ => ⟨show 1 ≤ 60 by decide, Nat.le_refl 60⟩
  | .rep _ => ⟨show 1 ≤ 60 by decide, Nat.le_refl 60⟩
def gapL (gs : List Int) (tl : Tl) (n : Nat) : List Int := (List.range n).map (gapf gs tl)
def offL (gs : List Int) (tl : Tl) (n : Nat) : List Int := (List.range n).map (off gs tl)
theorem gapL_len (gs : List Int) (tl : Tl) (n : Nat) : (gapL gs tl n).length = n := by simp [gapL]
theorem offL_len (gs : List Int) (tl : Tl) (n : Nat) : (offL gs tl n).length = n := by simp [offL]
theorem gapL_get (gs : List Int) (tl : Tl) {n k : Nat} (h : k < n) : (gapL gs tl n)[k]? = some (gapf gs tl k) := by
  unfold gapL
  rw [List.getElem?_map, List.getElem?_range h]
  rfl
theorem offL_get (gs : List Int) (tl : Tl) {n k : Nat} (h : k < n) : (offL gs tl n)[k]? = some (off gs tl k) := by
  unfold offL
  rw [List.getElem?_map, List.getElem?_range h]
  rfl
theorem gapL_succ (gs : List Int) (tl : Tl) (n : Nat) : gapL gs tl (n + 1) = gapL gs tl n ++ [gapf gs tl n] := by
  unfold gapL
  rw [List.range_succ, List.map_append]
  rfl
theorem offL_succ (gs : List Int) (tl : Tl) (n : Nat) : offL gs tl (n + 1) = offL gs tl n ++ [off gs tl n] := by
  unfold offL
  rw [List.range_succ, List.map_append]
  rfl
theorem gapL_low (gs : List Int) (tl : Tl) : gapL gs tl gs.length = gs := by
  refine List.ext_getElem? fun i => ?_
  by_cases h : i < gs.length
  · rw [gapL_get gs tl h, gap_low h, getD_get h]
  · rw [List.getElem?_eq_none (by rw [gapL_len]; omega), List.getElem?_eq_none (by omega)]
theorem gapL_take (gs : List Int) (tl : Tl) {n k : Nat} (h : k ≤ n) : (gapL gs tl n).take k = gapL gs tl k := by
  unfold gapL
  rw [← List.map_take, List.take_range, Nat.min_eq_left h]
end RS
namespace RS
open PySem L2
/-- tuples of two numbers -/
def TupsI (H : Hp) (rs : List Addr) (ps : List (Int × Int)) : Prop := rs.length = ps.length ∧ ∀ (j : Nat) (p : Int × Int), ps[j]? = some p → ∃ r, rs[j]? = some r ∧ H r = some (.tup [.int p.1, .int p.2])
theorem TupsI.kx {H H' : Hp} {rs : List Addr} {ps : List (Int × Int)} (t : TupsI H rs ps) (h : ∀ (r : Addr) (xs : List V), H r = some (.tup xs) → H' r = some (.tup xs)) : TupsI H' rs ps :=
  ⟨t.1, fun j p e => let ⟨r, a, b⟩ := t.2 j p e; ⟨r, a, h _ _ b⟩⟩
theorem TupsI.snoc {H : Hp} {rs : List Addr} {ps : List (Int × Int)} {r : Addr} {a b : Int} (t : TupsI H rs ps) (h : H r = some (.tup [.int a, .int b])) : TupsI H (rs ++ [r]) (ps ++ [(a, b)]) := by
  refine ⟨by rw [List.length_append, List.length_append, t.1]; rfl, fun j p e => ?_⟩
  by_cases hj : j < ps.length
  · rw [List.getElem?_append_left hj] at e
    obtain ⟨r', e1, e2⟩ := t.2 j p e
    exact ⟨r', by rw [List.getElem?_append_left (by rw [t.1]; exact hj)]; exact e1, e2⟩
  · have hl := (List.getElem?_eq_some_iff.mp e).1
    rw [List.length_append, List.length_singleton] at hl
    have ej : j = ps.length := by omega
    subst ej
    rw [List.getElem?_append_right (Nat.le_refl _), Nat.sub_self] at e
    cases e
    exact ⟨r, by rw [← t.1, List.getElem?_append_right (Nat.le_refl _), Nat.sub_self]; rfl, h⟩
theorem TupsI.nil {H : Hp} : TupsI H [] [] := ⟨rfl, fun _ _ e => nomatch e⟩
theorem TupsI.get {H : Hp} {rs : List Addr} {ps : List (Int × Int)} (t : TupsI H rs ps) {i : Nat} {x : V} (h : (rs.map V.ref)[i]? = some x) : ∃ r p, x = .ref r ∧ ps[i]? = some p ∧ H r = some (.tup [.int p.1, .int p.2]) := by
  rw [List.getElem?_map] at h
  cases e : rs[i]? with
  | none => rw [e] at h; cases h
  | some r =>
    rw [e] at h
    cases h
    have hl := (List.getElem?_eq_some_iff.mp e).1
    have hp : ps[i]? = some (ps[i]'(by rw [← t.1]; exact hl)) := List.getElem?_eq_getElem _
    obtain ⟨r', e1, e2⟩ := t.2 i _ hp
    rw [e] at e1
    cases e1
    exact ⟨r, _, rfl, hp, e2⟩
/-! ### lists of pairs as data -/
def winD (ws : List (Int × Int)) : List PyData := ws.map fun p => .tuple [.int p.1, .int p.2]
theorem win_can : ∀ ws : List (Int × Int), PyData.canLayAll0 (winD ws) = true
  | [] => rfl
  | p :: r => by
    show (PyData.canLay0 _ && PyData.canLayAll0 (winD r)) = true
    rw [win_can r]
    rfl
theorem win_depth : ∀ ws : List (Int × Int), PyData.depthAll (winD ws) ≤ 1
  | [] => by decide
  | p :: r => by
    have := win_depth r
    show max 1 (PyData.depthAll (winD r)) ≤ 1
    omega
theorem win_shaped (ws : List (Int × Int)) : SeqAt.shaped (.list (winD ws)) = true := by
  have h1 := win_can ws
  have h2 := win_depth ws
  show (PyData.canLayAll0 (winD ws) && decide (PyData.depthAll (winD ws) + 1 ≤ 64)) = true
  rw [h1, decide_eq_true (by omega)]
  rfl
theorem win_eqv : ∀ ws vs : List (Int × Int), PyData.eqvAll (winD ws) (winD vs) = decide (ws = vs)
  | [], [] => rfl
  | [], _ :: _ => rfl
  | _ :: _, [] => rfl
  | (a, b) :: r, (c, d) :: s => by
    show PyData.eqvAll (.tuple [.int a, .int b] :: winD r) (.tuple [.int c, .int d] :: winD s) = _
    have := win_eqv r s
    simp only [PyData.eqvAll, PyData.eqv, this]
    by_cases h1 : a = c <;> by_cases h2 : b = d <;> by_cases h3 : r = s <;> simp [h1, h2, h3]
theorem win_eqvL (ws vs : List (Int × Int)) : PyData.eqv (.list (winD ws)) (.list (winD vs)) = decide (ws = vs) := win_eqv ws vs
theorem tupsI_dp {K : PySem.W.Frag} {H : Hp} : ∀ {rs : List Addr} {ps : List (Int × Int)}, TupsI H rs ps → DpAll K H (rs.map V.ref) (winD ps)
  | [], [], _ => .nil
  | [], _ :: _, t => nomatch t.1
  | _ :: _, [], t => nomatch t.1
  | r :: rs, p :: ps, t => by
    obtain ⟨r', e1, e2⟩ := t.2 0 p rfl
    cases (Option.some.inj e1 : r = r')
    exact .cons (.tup (SqT.of e2) (.cons (.int _) (.cons (.int _) .nil))) (tupsI_dp ⟨Nat.succ.inj t.1, fun j q e => t.2 (j + 1) q e⟩)
theorem Src.nt {H : Hp} {a r : Addr} {b : Nat} {xs : List V} (S : Src H a b) (h : H r = some (.tup xs)) : r ≠ a := by
  obtain ⟨s0, s1, s2, h1, _⟩ := S.ex
  exact ne_of h h1 (by intro z; cases z)
theorem TupsI.kxs {H H' : Hp} {rs : List Addr} {ps : List (Int × Int)} {a : Addr} {b : Nat} (t : TupsI H rs ps) (S : Src H a b) (kx : Kx a H H') : TupsI H' rs ps := t.kx fun r xs e => kx r _ (S.nt e) e
theorem TupsI.same {H H' : Hp} {rs : List Addr} {ps : List (Int × Int)} (t : TupsI H rs ps) (S : Same H H') : TupsI H' rs ps := t.kx fun r xs e => S r _ e
end RS
namespace RS
open PySem L2 PySem.Spec PyProof.Rows PySem.W
/-! ### min of a list of tuples, without and with a default of None -/
def AlikeD (ds : List PyData) : Prop := AlikeAll ds ∧ PyData.depthAll ds ≤ 60 ∧ ∀ e ∈ ds, e.canLay0 = true
def rMinL (K : PySem.W.Frag) : List V → Hp → VK → Prop := fun vs H Q => ∃ (a : Addr) (xs : List V) (d : PyData) (ds : List PyData), vs = [V.ref a] ∧ SqL K H a xs ∧ DpAll K H xs (d :: ds) ∧ AlikeD (d :: ds) ∧ ∀ (i : Nat) (x : V), xs[i]? = some x → (d :: ds)[i]? = some (minD d ds) → Q x H
theorem vals_get : ∀ {xs : List V} {us : List Value} {i : Nat} {v : Value}, Vals xs us → us[i]? = some v → ∃ x, xs[i]? = some x ∧ RelV x v
  | _, _, _, _, .nil, h => nomatch h
  | _, _, 0, _, .cons r _, h => by
    cases h
    exact ⟨_, rfl, r⟩
  | _, _, i + 1, _, .cons _ rs, h => vals_get (i := i) rs h
theorem data_at {h h' : Heap} {us : List Value} {ds : List PyData} {as bs : List Addr} {i : Nat} {v : Value} {e : PyData} (hr : ReadsAll h us ds as) (hv : us[i]? = some v) (kp : ∀ b o, h.get? b = some o → h'.get? b = some o) (hl : ∀ e ∈ ds, e.canLay0 = true) (r : Reads h' v e bs) : ds[i]? = some e := by
  obtain ⟨cs, r1, hi, hm, _⟩ := readsAll_at hr i v hv
  have r2 := reads_keeps kp r1
  have := (PySem.Reads.unique r2 _ _ r).1
  rw [← this, List.getElem?_eq_getElem hi, List.getD_eq_getElem?_getD, List.getElem?_eq_getElem hi]
  rfl
theorem cr_minL {X : Cx} (hc : X.calm = true) (hu : X.A.units + 64 < cLine) : CallR X (.builtin "min") (rMinL X.K) := by
  intro pins s σ H vs us Q I r h
  obtain ⟨a, xs, d, ds, rfl, hs, hd, ⟨hal, hdp, hlay⟩, q⟩ := h
  obtain ⟨its, rv, hl, _⟩ := I.list hs
  rw [Vals.ref1 r]
  obtain ⟨as, hr⟩ := Dp.readsAll I _ _ _ hd rv
  refine min_list_data (I.ok.hd hc) hl.isList (x := d) (xs := ds) (as := as) (by simpa using hr) hal (by omega) fun i v h' tk bs hv hrd hk => ?_
  have hv' : its[i]? = some v := by simpa using hv
  obtain ⟨x, hx, rx⟩ := vals_get rv hv'
  exact ⟨x, H, I.kept hk, rx, q i x hx (data_at hr hv' hk hlay hrd)⟩
def rMinLD (K : PySem.W.Frag) : List V → List V → Hp → VK → Prop := fun vs zs H Q => ∃ (a : Addr) (xs : List V) (ds : List PyData), vs = [V.ref a] ∧ zs = [V.non] ∧ SqL K H a xs ∧ DpAll K H xs ds ∧ AlikeD ds ∧ (ds = [] → Q .non H) ∧ ∀ (d : PyData) (r : List PyData) (i : Nat) (x : V), ds = d :: r → xs[i]? = some x → ds[i]? = some (minD d r) → Q x H
theorem cr_minLD {X : Cx} (hc : X.calm = true) (hu : X.A.units + 64 < cLine) : CallRK X (.builtin "min") ["default"] (rMinLD X.K) := by
  intro pins s σ H vs zs us ws Q I r rz h
  obtain ⟨a, xs, ds, rfl, rfl, hs, hd, ⟨hal, hdp, hlay⟩, q0, q⟩ := h
  obtain ⟨its, rv, hl, _⟩ := I.list hs
  rw [Vals.ref1 r]
  obtain ⟨d, rfl, rd⟩ := vals1 rz
  cases (show d = Value.none from rd)
  obtain ⟨as, hr⟩ := Dp.readsAll I _ _ _ hd rv
  refine min_list_default (I.ok.hd hc) hl.isList (xs := ds) (as := as) (by simpa using hr) hal (by omega) (fun hz h' tk hk => ⟨.non, H, I.kept hk, rfl, q0 hz⟩) fun y ys i v h' tk bs hds hv hrd hk => ?_
  have hv' : its[i]? = some v := by simpa using hv
  obtain ⟨x, hx, rx⟩ := vals_get rv hv'
  exact ⟨x, H, I.kept hk, rx, q y ys i x hds hx (data_at hr hv' hk hlay hrd)⟩
/-- the least of pairs -/
def pairD (p : Int × Int) : PyData := .tuple [.int p.1, .int p.2]
def pairLt (p q : Int × Int) : Prop := p.1 < q.1 ∨ p.1 = q.1 ∧ p.2 < q.2
theorem pairs_alike (ps : List (Int × Int)) : AlikeD (ps.map pairD) := by
  refine ⟨⟨fun x hx y hy => ?_, fun x hx => ?_⟩, ?_, fun e he => ?_⟩
  · obtain ⟨p, _, rfl⟩ := List.mem_map.mp hx
    obtain ⟨q, _, rfl⟩ := List.mem_map.mp hy
    rfl
  · obtain ⟨p, _, rfl⟩ := List.mem_map.mp hx
    exact fun z => nomatch z
  · induction ps with
    | nil => decide
    | cons p r ih =>
      show max 1 (PyData.depthAll (r.map pairD)) ≤ 60
      omega
  · obtain ⟨p, _, rfl⟩ := List.mem_map.mp he
    rfl
theorem minD_pairs : ∀ (p : Int × Int) (ps : List (Int × Int)), ∃ q ∈ p :: ps, minD (pairD p) (ps.map pairD) = pairD q ∧ ∀ x ∈ p :: ps, ¬ pairLt x q := by
  intro p ps
  induction ps generalizing p with
  | nil => exact ⟨p, List.mem_cons_self .., rfl, fun x hx => by rw [List.mem_singleton.mp hx]; unfold pairLt; omega⟩
  | cons y r ih =>
    by_cases h : pairLt y p
    · obtain ⟨q, h1, h2, h3⟩ := ih y
      refine ⟨q, List.mem_cons_of_mem _ h1, ?_, fun x hx => ?_⟩
      · rw [← h2]
        unfold minD
        rw [List.map_cons, List.foldl_cons]
        have : dataLt (pairD y) (pairD p) = true := by unfold pairD; rw [dataLt_ii]; exact decide_eq_true h
        rw [if_pos this]
      · rcases List.mem_cons.mp hx with rfl | hx
        · have := h3 y (List.mem_cons_self ..)
          unfold pairLt at this h ⊢
          omega
        · exact h3 x hx
    · obtain ⟨q, h1, h2, h3⟩ := ih p
      refine ⟨q, ?_, ?_, fun x hx => ?_⟩
      · rcases List.mem_cons.mp h1 with rfl | h1
        · exact List.mem_cons_self ..
        · exact List.mem_cons_of_mem _ (List.mem_cons_of_mem _ h1)
      · rw [← h2]
        unfold minD
        rw [List.map_cons, List.foldl_cons]
        have : ¬ dataLt (pairD y) (pairD p) = true := by unfold pairD; rw [dataLt_ii, decide_eq_true_iff]; exact h
        rw [if_neg this]
      · rcases List.mem_cons.mp hx with rfl | hx
        · exact h3 x (List.mem_cons_self ..)
        · rcases List.mem_cons.mp hx with rfl | hx
          · have := h3 p (List.mem_cons_self ..)
            unfold pairLt at this h ⊢
            omega
          · exact h3 x (List.mem_cons_of_mem _ hx)
end RS
namespace RS
open PySem L2
section
variable {P : Program} {w : World} {K : PySem.W.Frag} {mg : Str → Option Value} {base : Heap}
def spLO (C : Addr) : Sp := fun vs H Q _ => ∃ (p g t o : Addr) (gs : List Int) (tl : Tl), vs = [.ref p] ∧ RuleAt C H p g t o gs tl ∧ ∀ q H', H q = none → Same H H' → H' q = some (.lst ((offs gs).map V.int)) → Q (.ref q) H'
theorem scLO : FnScope ["rule"] ["rule"] (defScope s_listed_offsets) := ⟨rfl, rfl, rfl, by decide +kernel, rfl, by decide +kernel, by decide +kernel⟩
theorem ok_lo {f C fS fG : Addr} {fd fdS fdG : FuncData} (F : Fun K "listed_offsets" "listed_offsets" s_listed_offsets f fd) (T : Txt K mg C) (GS : FnOk P w K mg base CX0 1 fS fdS ["gaps"] spSums) (bS : Binds K fdS ["gaps"] []) (mS : mg "sums" = some (.ref fS)) (kS : PySem.W.keepIn K (.ref fS) = true)
    (GG : FnOk P w K mg base CX0 1 fG fdG ["self"] (spGaps C)) (bG : Binds K fdG ["self"] []) (mG : Meth K C "gaps" fG) : FnOk P w K mg base CX0 2 f fd ["rule"] (spLO C) := by
  refine F.ok scLO (fun vs H Q E h => ?_) (fun cdv A outer s H vs Q E hr h => ?_)
  · obtain ⟨p, g, t, o, gs, tl, rfl, _⟩ := h
    rfl
  · obtain ⟨p, g, t, o, gs, tl, rfl, R, k⟩ := h
    refine ⟨_, (pss_one (ps_ret (pe_call GS hr rfl mS kS bS .nil pass0 (pa_cons (pe_meth0 (pv 0) T.cl mG GG hr bG .nil pass0) pa_nil)))), ?_⟩
    obtain ⟨dx, hob⟩ := R.ob
    have hl := R.okG.1
    refine ⟨_, rfl, p, dx, _, rfl, hob, flds_no _ _ _ (by decide +kernel) (by decide +kernel) (by decide +kernel), p, g, t, o, gs, tl, rfl, R, fun l hl0 => ?_⟩
    have S := same_new (o := .lst (gs.map V.int)) hl0
    refine ⟨l, gs, rfl, upd_same, by omega, fun q H' hq S' hq' => k q H' (S.free hq) (S.trans S') hq'⟩
end
end RS
namespace PySem
open PySem.Spec PyProof.Rows PySem.W
section
variable {prog : Program} {w : World} {A : Around} {E : Value → Shared → Prop} {s : Shared}
/-! ### min of two values, by their data -/
theorem min_two_data {a b : Value} {x y : PyData} {as : List Addr} {Q : Value → Shared → Prop} (hh : A.handled = none) (hr : ReadsAll s.heap [a, b] [x, y] as) (ha : AlikeAll [x, y]) (hu : A.units + 1 + PyData.depthAll [x, y] < cLine)
    (h : ∀ h' tk, (∀ b o, s.heap.get? b = some o → h'.get? b = some o) → Q (if dataLt y x = true then b else a) { s with heap := h', toks := tk }) :
    wpAny (model prog w) A (call (.builtin "min") [a, b]) Q E s := by
  have hname : (toString "min" ++ toString ".loop" : String) = "min.loop" := by decide
  refine call_function_tree F.kind_min F.plain_min F.entry_min (F.args_min2 _ _) ?_
  show wpAny _ A.in1 (Builtin.Builtins.bindParams "min" ["key", "default"] 0 ⟨[], []⟩ >>= _) _ _ s
  refine wpAny_bind (wpAny_of_eq (show Builtin.Builtins.bindParams "min" ["key", "default"] 0 ⟨[], []⟩ = pure [none, none] from rfl) ?_)
  show wpAny _ A.in1 (newTuple [a, b] >>= _) _ _ s
  refine wpAny_bind (wpAny_newObj_type ?_)
  have ht : (s.heap.push { cls := .type "tuple", data := .seq #[a, b] }).IsTuple s.heap.objs.size #[a, b] := ⟨_, Heap.get?_push_size _ rfl, rfl, _, rfl⟩
  have kp : ∀ b' o, s.heap.get? b' = some o → (s.heap.push { cls := .type "tuple", data := .seq #[a, b] }).get? b' = some o := fun b' o e => Heap.get?_push_of_some _ e
  have hr2 : ReadsAll (s.heap.push { cls := .type "tuple", data := .seq #[a, b] }) (#[a, b] : Array Value).toList [x, y] as := ReadsAll.keeps kp hr
  refine wpAny_bind (iter_tupleW (A := A.in1) hh ht fun s₂ e W st hfp hw hk => ?_)
  refine wpAny_bind (wpAny_newObj_type ?_)
  have hSf : s₂.heap.objs.size ∉ [(s.heap.push { cls := .type "tuple", data := .seq #[a, b] }).objs.size, s.heap.objs.size] := fun hm => Nat.lt_irrefl _ (hfp _ hm)
  rw [hname]
  have hcmp := cmpIn_lt (prog := prog) (w := w) (A := A.in1) (s := { s with heap := s.heap.push { cls := .type "tuple", data := .seq #[a, b] } }) hr2 ha (by show A.units + 1 + _ < _; exact hu)
  refine wpAny_pure ⟨plainId_quiet F.plain_min_loop _, codeAny_min_loop_firstH W _ hw _ hcmp s₂.heap.objs.size hSf (fresh_in hk) _ (Nat.succ_pos 1) (fun b o e => Heap.get?_push_of_some _ (hk b o e)) (W.frame 0 s₂ _ s₂.toks st (Nat.le_refl _) fun b _ o e => Heap.get?_push_of_some _ e) (Heap.get?_push_size _ rfl) fun v s' hP hm => ?_⟩
  have hm2 := Moved.drop_new (tk := s₂.toks) hm (Nat.le_refl _)
  obtain ⟨h', tk, rfl, hk'⟩ := moved_old e rfl hm2
  have hv : v = (if dataLt y x = true then b else a) := by
    have hP : (#[a, b] : Array Value)[argBest (fun i j => dataLt (([x, y] : List PyData).getD i .none) (([x, y] : List PyData).getD j .none)) 1]? = some v := hP
    have e1 : argBest (fun i j => dataLt (([x, y] : List PyData).getD i .none) (([x, y] : List PyData).getD j .none)) 1 = if dataLt y x = true then 1 else 0 := by
      simp [argBest]
    rw [e1] at hP
    by_cases hc : dataLt y x = true
    · rw [if_pos hc] at hP ⊢
      exact (Option.some.inj hP).symm
    · rw [if_neg hc] at hP ⊢
      exact (Option.some.inj hP).symm
  rw [hv]
  exact h h' tk fun b' o e2 => hk' b' o (kp b' o e2)
end
end PySem
namespace RS
open PySem L2 PySem.Spec PyProof.Rows PySem.W
def rMin2D (K : PySem.W.Frag) : List V → Hp → VK → Prop := fun vs H Q => ∃ (x y : V) (dx dy : PyData), vs = [x, y] ∧ DpAll K H [x, y] [dx, dy] ∧ AlikeD [dx, dy] ∧ Q (if dataLt dy dx = true then y else x) H
theorem cr_min2D {X : Cx} (hc : X.calm = true) (hu : X.A.units + 64 < cLine) : CallR X (.builtin "min") (rMin2D X.K) := by
  intro pins s σ H vs us Q I r h
  obtain ⟨x, y, dx, dy, rfl, hd, ⟨hal, hdp, hlay⟩, q⟩ := h
  obtain ⟨u, v, rfl, ru, rv⟩ := vals2 r
  obtain ⟨as, hr⟩ := Dp.readsAll I _ _ _ hd (.cons ru (.cons rv .nil))
  refine min_two_data (I.ok.hd hc) hr hal (by omega) fun h' tk hk => ?_
  refine ⟨_, H, I.kept hk, ?_, q⟩
  split
  · exact rv
  · exact ru
end RS
namespace RS
open PySem L2
/-! ### first attempts from a distance on: the mathematics -/
theorem gap_pos {gs : List Int} {tl : Tl} (okG : GapsOk gs) (okT : TlOk gs.length tl) {n : Nat} (hf : tl = .fin → n < gs.length) : 1 ≤ gapf gs tl n := by
  by_cases h : n < gs.length
  · rw [gap_low h]
    exact (gap_bd okG h).1
  · cases tl with
    | fin => exact absurd (hf rfl) h
    | times b =>
      rw [gap_times (by omega)]
      have h1 : 1 ≤ lastG gs := (gap_bd okG (k := gs.length - 1) (by have := okT.1; omega)).1
      have h2 : 0 < b ^ (n - gs.length + 1) := Int.pow_pos (by have := okT.2.1; omega)
      have h3 := Int.mul_le_mul h1 (show 1 ≤ b ^ (n - gs.length + 1) by omega) (by decide) (by omega)
      omega
    | rep m =>
      rw [gap_rep (by omega)]
      have h1 : (n - gs.length) % m < m := Nat.mod_lt _ (by have := okT.1; omega)
      exact (gap_bd okG (by have := okT.2; omega)).1
theorem off_mono {gs : List Int} {tl : Tl} (okG : GapsOk gs) (okT : TlOk gs.length tl) (i : Nat) : ∀ k, (tl = .fin → i + k ≤ gs.length) → off gs tl i + (k : Int) ≤ off gs tl (i + k)
  | 0, _ => by simp
  | k + 1, h => by
    have ih := off_mono okG okT i k fun e => by have := h e; omega
    have hf : tl = .fin → i + k < gs.length := fun e => by have := h e; omega
    have hg := gap_pos okG okT hf
    have hs := off_succ okT hf
    rw [show i + (k + 1) = i + k + 1 by omega, hs]
    omega
theorem off_lt {gs : List Int} {tl : Tl} (okG : GapsOk gs) (okT : TlOk gs.length tl) {i j : Nat} (h : i < j) (hf : tl = .fin → j ≤ gs.length) : off gs tl i < off gs tl j := by
  have := off_mono okG okT i (j - i) fun e => by have := hf e; omega
  rw [show i + (j - i) = j by omega] at this
  omega
theorem AttOk.fin {gs : List Int} {tl : Tl} {n : Nat} (h : AttOk gs tl n) : tl = .fin → n ≤ gs.length := fun e => by subst e; exact h
/-- what first_from hands back -/
def FF (gs : List Int) (tl : Tl) (d : Int) (r : V) : Prop := (r = .non ∧ tl = .fin ∧ pre gs gs.length < d) ∨ ∃ n : Nat, r = .int (n : Int) ∧ AttOk gs tl n ∧ d ≤ off gs tl n ∧ (0 < n → off gs tl (n - 1) < d)
theorem FF_one {gs : List Int} {tl : Tl} (okG : GapsOk gs) (okT : TlOk gs.length tl) {d : Int} {r s : V} (h1 : FF gs tl d r) (h2 : FF gs tl d s) : r = s := by
  have key : ∀ {n m : Nat}, AttOk gs tl n → AttOk gs tl m → d ≤ off gs tl n → (0 < m → off gs tl (m - 1) < d) → ¬ n < m := by
    intro n m hn hm h3 h4 h5
    have h6 := h4 (by omega)
    have h7 : off gs tl n ≤ off gs tl (m - 1) := by
      by_cases e : n = m - 1
      · rw [← e]
        exact Int.le_refl _
      · exact Int.le_of_lt (off_lt okG okT (by omega) fun e => by have := hm.fin e; omega)
    omega
  have low : ∀ {n : Nat}, tl = .fin → AttOk gs tl n → d ≤ off gs tl n → ¬ pre gs gs.length < d := by
    intro n e hn h3 h4
    subst e
    have hn : n ≤ gs.length := hn
    have h5 := off_mono okG okT n (gs.length - n) fun _ => by omega
    rw [show n + (gs.length - n) = gs.length by omega, off_low (Nat.le_refl gs.length)] at h5
    omega
  rcases h1 with ⟨rfl, e1, l1⟩ | ⟨n, rfl, a1, b1, c1⟩ <;> rcases h2 with ⟨rfl, e2, l2⟩ | ⟨m, rfl, a2, b2, c2⟩
  · rfl
  · exact absurd l1 (low e1 a2 b2)
  · exact absurd l2 (low e2 a1 b1)
  · have x := key a1 a2 b1 c2
    have y := key a2 a1 b2 c1
    rw [show n = m by omega]
/-- what attempt_at hands back -/
def AA (gs : List Int) (tl : Tl) (d : Int) (r : V) : Prop := ∃ a, FF gs tl d a ∧ ((∃ n : Nat, a = .int (n : Int) ∧ off gs tl n = d ∧ r = a) ∨ ((∀ n : Nat, a = .int (n : Int) → off gs tl n ≠ d) ∧ r = .non))
theorem off_turn {gs : List Int} {m : Nat} (h1 : 1 ≤ m) (h2 : m ≤ gs.length) {j : Nat} (hj0 : gs.length - m ≤ j) (hj1 : j ≤ gs.length) (q : Nat) : off gs (.rep m) (j + m * q) = pre gs j + (q : Int) * per gs m := by
  cases q with
  | zero =>
    rw [Nat.mul_zero, Nat.add_zero, off_low hj1]
    simp
  | succ q =>
    have e0 : m * (q + 1) = m * q + m := Nat.mul_succ m q
    rw [off_rep h1 h2 (by omega)]
    by_cases hj : j = gs.length
    · subst hj
      rw [show gs.length + m * (q + 1) - gs.length = m * (q + 1) by omega, Nat.mul_mod_right, Nat.mul_div_cancel_left _ (by omega), Nat.add_zero, Int.add_mul, Int.one_mul]
      have e1 : per gs m = pre gs gs.length - pre gs (gs.length - m) := rfl
      omega
    · rw [show j + m * (q + 1) - gs.length = (j - (gs.length - m)) + m * q by omega, Nat.add_mul_mod_self_left, Nat.add_mul_div_left _ _ (by omega), Nat.mod_eq_of_lt (by omega), Nat.div_eq_of_lt (by omega), Nat.zero_add, show gs.length - m + (j - (gs.length - m)) = j by omega]
      rw [Int.natCast_add, Int.natCast_one]
end RS
namespace RS
open PySem L2
section
variable {P : Program} {w : World} {K : PySem.W.Frag} {mg : Str → Option Value} {base : Heap}
/-! ### _first_at_least -/
def spFal : Sp := fun vs H Q _ => ∃ (o : Addr) (xs : List Int) (d : Int) (j : Nat), vs = [.ref o, .int d] ∧ H o = some (.lst (xs.map V.int)) ∧ j < xs.length ∧ d ≤ xs.getD j 0 ∧ ∀ n : Nat, n ≤ j → d ≤ xs.getD n 0 → (∀ i, i < n → xs.getD i 0 < d) → Q (.int (n : Int)) H
theorem scFal : FnScope ["offsets", "distance", "position"] ["offsets", "distance"] (defScope s_first_at_least) := ⟨rfl, rfl, rfl, by decide +kernel, rfl, by decide +kernel, by decide +kernel⟩
theorem ok_fal {f : Addr} {fd : FuncData} (F : Fun K "_first_at_least" "_first_at_least" s_first_at_least f fd) : FnOk P w K mg base CX0 1 f fd ["offsets", "distance"] spFal := by
  refine F.ok scFal (fun vs H Q E h => ?_) (fun cdv A outer s H vs Q E hr h => ?_)
  · obtain ⟨o, xs, d, j, rfl, _⟩ := h
    rfl
  · obtain ⟨o, xs, d, j, rfl, ho, hj, hd, k⟩ := h
    refine ⟨_, (pss_cons (ps_set (i := 2) scFal.nd rfl (Or.inl rfl) pe_int) (pss_cons (ps_while PassesOwn.never (pt_cmpR op_lt (pe_ix ix_list (pv 0) (pv 2) (fun _ _ => rfl)) (pv 1) (nomark _)) (pss_one (ps_set (i := 2) scFal.nd rfl (Or.inl rfl) (pe_op op_add (pv 2) pe_int)))) (pss_one (ps_ret (pv 2))))), ?_⟩
    refine ⟨fun m σ H' => H' = H ∧ ∃ i : Nat, i ≤ j ∧ m = j - i ∧ σ = [some (.ref o), some (.int d), some (.int (i : Int))] ∧ ∀ k, k < i → xs.getD k 0 < d, ⟨j, rfl, 0, Nat.zero_le _, rfl, rfl, fun k hk => absurd hk (Nat.not_lt_zero _)⟩, ?_⟩
    rintro m σ H' ⟨rfl, i, hi, rfl, rfl, hall⟩
    refine ⟨_, rfl, _, rfl, o, _, _, _, rfl, rfl, SqL.of ho, at_map (getD_get (by omega)), _, rfl, _, _, rfl, rfl, _, rfl, ?_⟩
    by_cases hlt : xs.getD i 0 < d
    · refine iteTb (decide_eq_true hlt) ?_
      have hne : i ≠ j := fun e => by subst e; omega
      refine ⟨fun σ' H2 => H2 = H' ∧ σ' = [some (.ref o), some (.int d), some (.int ((i : Int) + 1))], ?_, ?_⟩
      · rintro σ' H2 ⟨rfl, rfl⟩
        refine ⟨j - (i + 1), by omega, rfl, i + 1, by omega, rfl, rfl, fun k hk => ?_⟩
        by_cases e : k = i
        · subst e
          exact hlt
        · exact hall k (by omega)
      · exact ⟨_, rfl, _, _, rfl, rfl, rfl, rfl⟩
    · refine iteFb (decide_eq_false hlt) ?_
      exact ⟨_, rfl, k i hi (by omega) hall⟩
/-! ### _surely_short -/
theorem geo_short {b : Int} (h : 2 ≤ b) : ∀ k, b * geo b k < 2 * b ^ k
  | 0 => by simp [geo]
  | k + 1 => by
    have ih := geo_short h k
    have p : 0 < b ^ k := Int.pow_pos (by omega)
    have e : 2 * b ^ k ≤ b * b ^ k := Int.mul_le_mul_of_nonneg_right h (Int.le_of_lt p)
    rw [geo, Int.mul_add, Int.pow_succ, Int.mul_comm (b ^ k) b]
    omega
theorem bits_nat {n : Nat} (h : 0 < n) : ∃ j, Builtin.Int.intBits (n : Int) = j + 1 ∧ 2 ^ j ≤ n ∧ n < 2 ^ (j + 1) := by
  refine ⟨n.log2, ?_, Nat.log2_self_le (by omega), Nat.lt_log2_self⟩
  unfold Builtin.Int.intBits
  rw [if_neg (by simp; omega)]
  rfl
theorem short_ok {L b way : Int} (hL : 1 ≤ L) (hb : 2 ≤ b) (hw : 0 < way) {k : Nat} (h : (k : Int) ≤ (((Builtin.Int.intBits way : Nat) : Int) - ((Builtin.Int.intBits L : Nat) : Int) - 2) / ((Builtin.Int.intBits (b - 1) : Nat) : Int)) : 2 * L * b ^ k ≤ way := by
  obtain ⟨L, rfl⟩ := Int.eq_ofNat_of_zero_le (show 0 ≤ L by omega)
  obtain ⟨way, rfl⟩ := Int.eq_ofNat_of_zero_le (show 0 ≤ way by omega)
  obtain ⟨c, hc⟩ := Int.eq_ofNat_of_zero_le (show 0 ≤ b - 1 by omega)
  have eb : b = ((c + 1 : Nat) : Int) := by omega
  rw [hc] at h
  subst eb
  obtain ⟨w, ew, hw1, _⟩ := bits_nat (n := way) (by omega)
  obtain ⟨l, el, _, hl1⟩ := bits_nat (n := L) (by omega)
  obtain ⟨d, ed, _, hd1⟩ := bits_nat (n := c) (by omega)
  rw [ew, el, ed] at h
  have h2 : (k : Int) * ((d + 1 : Nat) : Int) ≤ ((w + 1 : Nat) : Int) - ((l + 1 : Nat) : Int) - 2 :=
    Int.le_trans (Int.mul_le_mul_of_nonneg_right h (by omega)) (Int.ediv_mul_le _ (by omega))
  rw [← Int.natCast_mul] at h2
  have h3 : k * (d + 1) + l + 2 ≤ w := by omega
  have p1 : (c + 1) ^ k ≤ (2 ^ (d + 1)) ^ k := Nat.pow_le_pow_left (by omega) k
  rw [← Nat.pow_mul, Nat.mul_comm] at p1
  have p2 : L * (c + 1) ^ k ≤ 2 ^ (l + 1) * 2 ^ (k * (d + 1)) := Nat.mul_le_mul (by omega) p1
  rw [← Nat.pow_add] at p2
  have p3 : 2 ^ (l + 1 + k * (d + 1)) * 2 ≤ 2 ^ w := by
    rw [← Nat.pow_succ]
    exact Nat.pow_le_pow_right (by decide) (by omega)
  have p4 : 2 * (L * (c + 1) ^ k) ≤ way := by omega
  rw [Int.mul_assoc]
  exact_mod_cast p4
def spSs (C : Addr) : Sp := fun vs H Q _ => ∃ (p g t o : Addr) (gs : List Int) (b d : Int), vs = [.ref p, .int d] ∧ RuleAt C H p g t o gs (.times b) ∧ 0 < d ∧ ∀ k : Nat, (0 < k → 2 * lastG gs * b ^ k ≤ d) → Q (.int (k : Int)) H
theorem scSs : FnScope ["self", "way", "bits"] ["self", "way"] (defScope s_Rule_surely_short) := ⟨rfl, rfl, rfl, by decide +kernel, rfl, by decide +kernel, by decide +kernel⟩
theorem ok_ss {f C : Addr} {fd : FuncData} (F : Fun K "_surely_short" "Rule._surely_short" s_Rule_surely_short f fd) (T : Txt K mg C) : FnOk P w K mg base CX0 1 f fd ["self", "way"] (spSs C) := by
  refine F.ok scSs (fun vs H Q E h => ?_) (fun cdv A outer s H vs Q E hr h => ?_)
  · obtain ⟨p, g, t, o, gs, b, d, rfl, _⟩ := h
    rfl
  · obtain ⟨p, g, t, o, gs, b, d, rfl, R, hd0, k⟩ := h
    have hl := R.okT.1
    have hb0 := R.okT.2.1
    have hb1 := R.okT.2.2
    have hg := gap_bd R.okG (k := gs.length - 1) (by omega)
    have hg : 1 ≤ lastG gs ∧ lastG gs ≤ 1000000000000 := hg
    refine ⟨_, (pss_cons (ps_set (i := 2) scSs.nd rfl (Or.inl rfl) (pe_op op_sub (pe_op op_sub (pe_bits (pv 1)) (pe_bits (pe_ix ix_list (pe_fld (pv 0) rfl) (pe_un un_neg pe_int) (fun _ _ => rfl)))) pe_int)) (pss_one (ps_ret (pe_callB (call_max2 rfl) (by rfl) T.max (by decide +kernel) (pa_cons pe_int (pa_cons (pe_op op_fdiv (pv 2) (pe_bits (pe_op op_sub (pe_ix ix_tup (pe_fld (pv 0) rfl) pe_int (fun _ _ => rfl)) pe_int))) pa_nil)))))), ?_⟩
    refine ⟨_, rfl, d, rfl, ?_⟩
    refine rdLast T R rfl hl ⟨_, rfl, _, _, rfl, rfl, _, _, rfl, rfl, ?_⟩
    refine ⟨_, rfl, ?_⟩
    refine rdB T R rfl ⟨_, _, rfl, rfl, _, rfl, ?_⟩
    obtain ⟨c, hc⟩ := Int.eq_ofNat_of_zero_le (show 0 ≤ b - 1 by omega)
    obtain ⟨j, ej, hj1, _⟩ := bits_nat (n := c) (by omega)
    have hj : 2 ^ j < 2 ^ 10 := by omega
    have hj2 := (Nat.pow_lt_pow_iff_right (a := 2) (by decide)).mp hj
    have hcb : ((Builtin.Int.intBits (b - 1) : Nat) : Int) = ((j + 1 : Nat) : Int) := by rw [hc, ej]
    refine ⟨_, _, rfl, rfl, ⟨by omega, by omega⟩, _, _, rfl, ?_⟩
    split
    · rename_i hp
      obtain ⟨n, hn⟩ := Int.eq_ofNat_of_zero_le (Int.le_of_lt hp)
      rw [hn]
      exact k n fun _ => short_ok hg.1 hb0 hd0 (by rw [← hn]; exact Int.le_refl _)
    · exact k 0 fun h => absurd h (Nat.lt_irrefl _)
/-! ### _first_growing -/
def spFg (C : Addr) : Sp := fun vs H Q _ => ∃ (p g t o : Addr) (gs : List Int) (b d : Int), vs = [.ref p, .int d] ∧ RuleAt C H p g t o gs (.times b) ∧ pre gs gs.length < d ∧ d ≤ off gs (.times b) 1000 ∧ ∀ r H', Same H H' → FF gs (.times b) d r → Q r H'
theorem scFg : FnScope ["self", "distance", "attempt", "offset", "gap"] ["self", "distance"] (defScope s_Rule_first_growing) := ⟨rfl, rfl, rfl, by decide +kernel, rfl, by decide +kernel, by decide +kernel⟩
theorem rdTb {tr : TE} {C p g t o : Addr} {gs : List Int} {H : Hp} {σ : L2.St} {i : Nat} {b : Int} {sp : Sp} {dvs : List V} {E : XK} {Q : VK} (T : Txt K mg C) (R : RuleAt C H p g t o gs (.times b)) (hi : σ[i]? = some (some (.ref p))) (q : tr σ H fun y H2 => sp ([.int b, y] ++ dvs) H2 Q E) :
    tCall sp dvs E (tCons (tOp (rIxT K) (tFld K (tVar i) "_tail") (tC (.int 1))) (tCons tr tNil)) σ H Q := by
  dsimp only [tCall, tCons]
  exact rdB T R hi q
theorem ok_fg {f C fS fO fW : Addr} {fd fdS fdO fdW : FuncData} (F : Fun K "_first_growing" "Rule._first_growing" s_Rule_first_growing f fd) (T : Txt K mg C) (FS : Fun K "_surely_short" "Rule._surely_short" s_Rule_surely_short fS fdS) (bS : Binds K fdS ["self", "way"] []) (mS : Meth K C "_surely_short" fS)
    (GO : FnOk P w K mg base CX0 3 fO fdO ["self", "attempt"] (spOff C)) (bO : Binds K fdO ["self", "attempt"] []) (mO : Meth K C "_offset_of" fO) (FW : Fun K "_power" "_power" s_power fW fdW) (bW : Binds K fdW ["base", "exponent"] []) (mW : mg "_power" = some (.ref fW)) : FnOk P w K mg base CX0 4 f fd ["self", "distance"] (spFg C) := by
  have GS : FnOk P w K mg base CX0 1 fS fdS ["self", "way"] (spSs C) := ok_ss FS T
  have GW : FnOk P w K mg base CX0 1 fW fdW ["base", "exponent"] spPower := ok_power FW
  refine F.ok scFg (fun vs H Q E h => ?_) (fun cdv A outer s H vs Q E hr h => ?_)
  · obtain ⟨p, g, t, o, gs, b, d, rfl, _⟩ := h
    rfl
  · obtain ⟨p, g, t, o, gs, b, d, rfl, R, hd0, hd1, k⟩ := h
    have hr1 := hr.mono (show 1 ≤ 3 by decide)
    have hl := R.okT.1
    have hb0 := R.okT.2.1
    have hb1 := R.okT.2.2
    have hlen : gs.length ≤ 20 := R.okG.1
    refine ⟨_, (pss_cons (ps_set (i := 2) scFg.nd rfl (Or.inl rfl) (pe_op op_add (pe_callB call_len_seq (by rfl) T.len (by decide +kernel) (pa_cons (pe_fld (pv 0) rfl) pa_nil)) (pe_meth (pv 0) T.cl mS GS hr1 bS .nil pass0 (pa_cons (pe_op op_sub (pv 1) (pe_ix ix_list (pe_fld (pv 0) rfl) (pe_un un_neg pe_int) (fun _ _ => rfl))) pa_nil)))) (pss_cons (ps_set (i := 3) scFg.nd rfl (Or.inl rfl) (pe_meth (pv 0) T.cl mO GO hr bO .nil pass0 (pa_cons (pv 2) pa_nil))) (pss_cons (ps_set (i := 4) scFg.nd rfl (Or.inl rfl) (pe_op op_mulW (pe_ix ix_list (pe_fld (pv 0) rfl) (pe_un un_neg pe_int) (fun _ _ => rfl)) (pe_call GW hr1 rfl mW FW.kp bW .nil pass0 (pa_cons (pe_ix ix_tup (pe_fld (pv 0) rfl) pe_int (fun _ _ => rfl)) (pa_cons (pe_op op_sub (pv 2) (pe_callB call_len_seq (by rfl) T.len (by decide +kernel) (pa_cons (pe_fld (pv 0) rfl) pa_nil))) pa_nil))))) (pss_cons (ps_while PassesOwn.never (pt_cmpR op_lt (pv 3) (pv 1) (nomark _)) (pss_cons (ps_set (i := 4) scFg.nd rfl (Or.inl rfl) (pe_op op_mul (pv 4) (pe_ix ix_tup (pe_fld (pv 0) rfl) pe_int (fun _ _ => rfl)))) (pss_cons (ps_set (i := 3) scFg.nd rfl (Or.inl rfl) (pe_op op_add (pv 3) (pv 4))) (pss_one (ps_set (i := 2) scFg.nd rfl (Or.inl rfl) (pe_op op_add (pv 2) pe_int)))))) (pss_one (ps_ret (pv 2))))))), ?_⟩
    obtain ⟨dx, hob⟩ := R.ob
    refine rdG T R rfl ⟨g, _, rfl, .inl (SqL.of R.hg), ?_⟩
    rw [List.length_map]
    refine ⟨_, rfl, p, dx, _, rfl, hob, flds_no _ _ _ (by decide +kernel) (by decide +kernel) (by decide +kernel), _, rfl, ?_⟩
    refine rdLastO T R rfl ⟨_, _, rfl, rfl, p, g, t, o, gs, b, _, rfl, R, by omega, fun k0 hk0 => ?_⟩
    refine ⟨_, _, rfl, rfl, ?_⟩
    have ok0 : gs.length + k0 ≤ 1000 ∧ (0 < k0 → off gs (.times b) (gs.length + k0) < d) := by
      by_cases hz : 0 < k0
      · have h1 := hk0 hz
        have h2 := geo_short hb0 k0
        have hg := gap_bd R.okG (k := gs.length - 1) (by omega)
        have hg : 1 ≤ lastG gs ∧ lastG gs ≤ 1000000000000 := hg
        have h3 : lastG gs * (b * geo b k0) < lastG gs * (2 * b ^ k0) := Int.mul_lt_mul_of_pos_left h2 (by omega)
        have h4 : lastG gs * (2 * b ^ k0) = 2 * lastG gs * b ^ k0 := by rw [Int.mul_comm 2 (lastG gs), Int.mul_assoc]
        have h5 : off gs (.times b) (gs.length + k0) < d := by
          rw [off_times hb0 (Nat.le_add_right _ _), Nat.add_sub_cancel_left, Int.mul_assoc]
          omega
        refine ⟨?_, fun _ => h5⟩
        by_cases hn : gs.length + k0 ≤ 1000
        · exact hn
        · have := off_lt R.okG R.okT (i := 1000) (j := gs.length + k0) (by omega) (fun e => nomatch e)
          omega
      · exact ⟨by omega, fun h => absurd h hz⟩
    dsimp only [gName]
    rw [← Int.natCast_add]
    refine ⟨_, rfl, p, dx, _, rfl, hob, flds_no _ _ _ (by decide +kernel) (by decide +kernel) (by decide +kernel), _, rfl, p, g, t, o, gs, .times b, gs.length + k0, rfl, R, ok0.1, fun H1 S1 => ?_⟩
    have R1 := R.mono S1
    dsimp only [tSeq, tAsg, tOp]
    refine rdLast T R1 rfl hl ?_
    refine rdTb T R1 rfl ⟨_, rfl, ?_⟩
    refine rdG T R1 rfl ⟨g, _, rfl, .inl (SqL.of R1.hg), _, _, rfl, rfl, ?_⟩
    refine ⟨b, k0, ?_, by omega, by omega, by omega, _, _, rfl, rfl, ?_, ?_⟩
    · rw [List.length_map]
      show [V.int b, V.int (((gs.length + k0 : Nat) : Int) - (gs.length : Int))] = _
      rw [show ((gs.length + k0 : Nat) : Int) - (gs.length : Int) = (k0 : Int) by omega]
    · have hg := gap_bd R.okG (k := gs.length - 1) (by omega)
      have hg : 1 ≤ lastG gs ∧ lastG gs ≤ 1000000000000 := hg
      exact wide_mul (a := 64) (b := 20481) (by omega) (pow_small (by omega) (by omega) (by omega)) (by decide) (by decide) (by decide)
    generalize hn0' : gs.length + k0 = n0 at ok0 ⊢
    have hn0 : gs.length ≤ n0 := by omega
    have ek : k0 = n0 - gs.length := by omega
    subst ek
    refine ⟨fun m σ H' => H' = H1 ∧ ∃ n : Nat, gs.length ≤ n ∧ n ≤ 1000 ∧ m = 1000 - n ∧ σ = [some (.ref p), some (.int d), some (.int (n : Int)), some (.int (off gs (.times b) n)), some (.int (lastG gs * b ^ (n - gs.length)))] ∧ (n0 < n → off gs (.times b) (n - 1) < d) ∧ n0 ≤ n, ⟨1000 - n0, rfl, n0, hn0, ok0.1, rfl, rfl, fun h => absurd h (Nat.lt_irrefl _), Nat.le_refl _⟩, ?_⟩
    rintro m σ H' ⟨rfl, n, hn0, hn1, rfl, rfl, hall, hnn⟩
    refine ⟨_, rfl, _, rfl, _, _, rfl, rfl, _, rfl, ?_⟩
    by_cases hlt : off gs (.times b) n < d
    · refine iteTb (decide_eq_true hlt) ?_
      have hne : n ≠ 1000 := fun e => by subst e; omega
      have eg : lastG gs * b ^ (n - gs.length) * b = lastG gs * b ^ (n + 1 - gs.length) := by
        rw [show n + 1 - gs.length = (n - gs.length) + 1 by omega, Int.pow_succ, Int.mul_assoc]
      have eo : off gs (.times b) n + lastG gs * b ^ (n + 1 - gs.length) = off gs (.times b) (n + 1) := by
        rw [off_succ R.okT (n := n) (fun e => nomatch e), gap_times hn0, show n + 1 - gs.length = (n - gs.length) + 1 by omega]
      refine ⟨fun σ' H2 => H2 = H' ∧ σ' = [some (.ref p), some (.int d), some (.int ((n : Int) + 1)), some (.int (off gs (.times b) (n + 1))), some (.int (lastG gs * b ^ (n + 1 - gs.length)))], ?_, ?_⟩
      · rintro σ' H2 ⟨rfl, rfl⟩
        exact ⟨1000 - (n + 1), by omega, rfl, n + 1, by omega, by omega, rfl, rfl, fun _ => hlt, by omega⟩
      · refine ⟨_, rfl, ?_⟩
        refine rdB T R1 rfl ⟨_, _, rfl, rfl, .inr ⟨by omega, by omega⟩, ?_⟩
        refine ⟨_, rfl, _, rfl, _, _, rfl, rfl, _, rfl, _, _, rfl, rfl, rfl, ?_⟩
        show [some (V.ref p), some (V.int d), some (V.int ((n : Int) + 1)), some (V.int (off gs (.times b) n + lastG gs * b ^ (n - gs.length) * b)), some (V.int (lastG gs * b ^ (n - gs.length) * b))] = _
        rw [eg, eo]
    · refine iteFb (decide_eq_false hlt) ?_
      have hne : gs.length ≠ n := fun e => by
        subst e
        rw [off_low (Nat.le_refl gs.length)] at hlt
        exact hlt hd0
      refine ⟨_, rfl, k _ _ S1 (.inr ⟨n, rfl, hn1, by omega, fun _ => ?_⟩)⟩
      by_cases h2 : n0 < n
      · exact hall h2
      · have e3 : n = n0 := by omega
        subst e3
        exact absurd (ok0.2 (by omega)) hlt
theorem rdOc {C p g t o : Addr} {gs : List Int} {tl : Tl} {H : Hp} {σ : L2.St} {i : Nat} {sp : Sp} {dvs : List V} {E : XK} {tr : TA} {Q : VK} (T : Txt K mg C) (R : RuleAt C H p g t o gs tl) (hi : σ[i]? = some (some (.ref p))) (q : tr σ H fun xs H2 => sp ((.ref o :: xs) ++ dvs) H2 Q E) :
    tCall sp dvs E (tCons (tFld K (tVar i) "_offsets") tr) σ H Q := by
  dsimp only [tCall, tCons]
  exact rdO T R hi q
/-! ### _first_repeated -/
def spFrp (C : Addr) : Sp := fun vs H Q _ => ∃ (p g t o : Addr) (gs : List Int) (m : Nat) (d : Int), vs = [.ref p, .int d] ∧ RuleAt C H p g t o gs (.rep m) ∧ pre gs gs.length < d ∧ d < 2 ^ 200 ∧ ∀ r H', Same H H' → FF gs (.rep m) d r → Q r H'
theorem scFrp : FnScope ["self", "distance", "first", "periods", "rest", "within"] ["self", "distance"] (defScope s_Rule_first_repeated) := ⟨rfl, rfl, rfl, by decide +kernel, rfl, by decide +kernel, by decide +kernel⟩
theorem offsD {gs : List Int} {j : Nat} (h : j ≤ gs.length) : (offs gs).getD j 0 = pre gs j := by
  rw [List.getD_eq_getElem?_getD, offs_get gs h]
  rfl
theorem bits_lt {i : Int} (h0 : 0 ≤ i) (h1 : i < 2 ^ 200) : Builtin.Int.intBits i ≤ 200 := by
  unfold Builtin.Int.intBits
  split
  · omega
  · have := PySem.Flt.log2_lt_of (n := i.natAbs) (k := 200) (by decide) (by omega)
    omega
theorem ok_frp {f C fR fP fL : Addr} {fd fdR fdP fdL : FuncData} (F : Fun K "_first_repeated" "Rule._first_repeated" s_Rule_first_repeated f fd) (T : Txt K mg C) (FR : Fun K "first_repeating" "Rule.first_repeating" s_Rule_first_repeating fR fdR) (bR : Binds K fdR ["self"] []) (mR : Meth K C "first_repeating" fR)
    (FP : Fun K "period" "Rule.period" s_Rule_period fP fdP) (bP : Binds K fdP ["self"] []) (mP : Meth K C "period" fP) (FL : Fun K "_first_at_least" "_first_at_least" s_first_at_least fL fdL) (bL : Binds K fdL ["offsets", "distance"] []) (mL : mg "_first_at_least" = some (.ref fL)) :
    FnOk P w K mg base CX0 3 f fd ["self", "distance"] (spFrp C) := by
  have GR : FnOk P w K mg base CX0 1 fR fdR ["self"] (spFR C) := ok_fr FR T
  have GP : FnOk P w K mg base CX0 2 fP fdP ["self"] (spPer C) := ok_per FP T FR bR mR
  have GL : FnOk P w K mg base CX0 1 fL fdL ["offsets", "distance"] spFal := ok_fal FL
  refine F.ok scFrp (fun vs H Q E h => ?_) (fun cdv A outer s H vs Q E hr h => ?_)
  · obtain ⟨p, g, t, o, gs, m, d, rfl, _⟩ := h
    rfl
  · obtain ⟨p, g, t, o, gs, m, d, rfl, R, hd0, hd1, k⟩ := h
    have hr1 := hr.mono (show 1 ≤ 2 by decide)
    have hm0 : 1 ≤ m := R.okT.1
    have hm1 : m ≤ gs.length := R.okT.2
    have hp := per_bd R.okG hm0 hm1
    have hpre := pre_le R.okG (gs.length - m) (by omega)
    have eper : per gs m = pre gs gs.length - pre gs (gs.length - m) := rfl
    refine ⟨_, (pss_cons (ps_set (i := 2) scFrp.nd rfl (Or.inl rfl) (pe_meth0 (pv 0) T.cl mR GR hr1 bR .nil pass0)) (pss_cons (ps_asg (pe_callB call_divmodW (by rfl) T.divmod (by decide +kernel) (pa_cons (pe_op op_sub (pv 1) (pe_ix ix_list (pe_fld (pv 0) rfl) (pv 2) (fun _ _ => rfl))) (pa_cons (pe_meth0 (pv 0) T.cl mP GP hr bP .nil pass0) pa_nil))) (pg_tup rfl (pgs_cons (pg_name (i := 3) scFrp.nd rfl (Or.inl rfl)) (pgs_cons (pg_name (i := 4) scFrp.nd rfl (Or.inl rfl)) pgs_nil)))) (pss_cons (ps_set (i := 5) scFrp.nd rfl (Or.inl rfl) (pe_call GL hr1 rfl mL FL.kp bL .nil pass0 (pa_cons (pe_fld (pv 0) rfl) (pa_cons (pe_op op_add (pe_ix ix_list (pe_fld (pv 0) rfl) (pv 2) (fun _ _ => rfl)) (pv 4)) pa_nil)))) (pss_one (ps_ret (pe_op op_add (pv 5) (pe_op op_mul (pv 3) (pe_ix ix_tup (pe_fld (pv 0) rfl) pe_int (fun _ _ => rfl))))))))), ?_⟩
    obtain ⟨dx, hob⟩ := R.ob
    have nF : (flds g t o).lookup ("first_repeating" : Str) = none := flds_no _ _ _ (by decide +kernel) (by decide +kernel) (by decide +kernel)
    have nP : (flds g t o).lookup ("period" : Str) = none := flds_no _ _ _ (by decide +kernel) (by decide +kernel) (by decide +kernel)
    refine ⟨_, rfl, p, dx, _, rfl, hob, nF, p, g, t, o, gs, m, rfl, R, ?_⟩
    refine ⟨_, rfl, ?_⟩
    refine rdOx T R rfl ⟨_, rfl, o, _, _, _, rfl, rfl, SqL.of R.ho, at_map (offs_get gs (by omega)), _, _, rfl, rfl, ?_⟩
    refine ⟨_, rfl, p, dx, _, rfl, hob, nP, p, g, t, o, gs, .rep m, rfl, R, ?_⟩
    have hi0 : 0 ≤ d - pre gs (gs.length - m) := by omega
    refine ⟨_, _, rfl, divp_ok (by omega) (Nat.le_trans (bits_lt hi0 (by omega)) (by omega)), fun q hq => ?_⟩
    generalize hQ : (d - pre gs (gs.length - m)) / per gs m = qq
    generalize hRr : (d - pre gs (gs.length - m)) % per gs m = rr
    have eqr : per gs m * qq + rr = d - pre gs (gs.length - m) := by rw [← hQ, ← hRr]; exact Int.mul_ediv_add_emod _ _
    have hr0 : 0 ≤ rr := by rw [← hRr]; exact Int.emod_nonneg _ (by omega)
    have hr2 : rr < per gs m := by rw [← hRr]; exact Int.emod_lt_of_pos _ (by omega)
    have hq1 : 1 ≤ qq := by
      by_cases h : 1 ≤ qq
      · exact h
      · have : per gs m * qq ≤ per gs m * 0 := Int.mul_le_mul_of_nonneg_left (by omega) (by omega)
        omega
    obtain ⟨qn, rfl⟩ : ∃ qn : Nat, qq = (qn : Int) := ⟨qq.toNat, by omega⟩
    have S : Same H (upd H q (.tup [.int (qn : Int), .int rr])) := same_new hq
    have R2 := R.mono S
    refine ⟨q, _, rfl, SqT.of upd_same, rfl, _, _, rfl, _, _, rfl, rfl, ?_⟩
    obtain ⟨dx2, hob2⟩ := R2.ob
    refine rdOc T R2 rfl ?_
    refine rdOx T R2 rfl ⟨_, rfl, o, _, _, _, rfl, rfl, SqL.of R2.ho, at_map (offs_get gs (by omega)), _, rfl, _, _, rfl, rfl, ?_⟩
    refine ⟨o, offs gs, _, gs.length, rfl, R2.ho, by rw [offs_len]; omega, by rw [offsD (Nat.le_refl _)]; omega, fun j hj hdj hall => ?_⟩
    rw [offsD hj] at hdj
    have hj0 : gs.length - m ≤ j := by
      by_cases h : gs.length - m ≤ j
      · exact h
      · have := pre_mono R.okG j (gs.length - m - j) (by omega)
        rw [show j + (gs.length - m - j) = gs.length - m by omega] at this
        omega
    refine ⟨_, rfl, _, rfl, ?_⟩
    refine rdN T R2 rfl ⟨_, _, rfl, rfl, .inr ⟨by omega, by have := R.okG.1; omega⟩, _, _, rfl, rfl, ?_⟩
    have emul : (qn : Int) * per gs m = per gs m * (qn : Int) := Int.mul_comm _ _
    refine k _ _ S (.inr ⟨j + m * qn, ?_, True.intro, ?_, fun _ => ?_⟩)
    · rw [Int.natCast_add, Int.natCast_mul, Int.mul_comm (m : Int)]
    · rw [off_turn hm0 hm1 hj0 hj]
      omega
    · by_cases hj1 : j = gs.length - m
      · have e1 : qn = (qn - 1) + 1 := by omega
        have e2 : j + m * qn - 1 = (gs.length - 1) + m * (qn - 1) := by
          rw [e1, Nat.mul_succ]
          simp only [Nat.add_sub_cancel]
          omega
        have hall0 : d = pre gs (gs.length - m) + rr + per gs m * (qn : Int) := by omega
        rw [e2, off_turn hm0 hm1 (by omega) (by omega)]
        have hl := pre_mono R.okG (gs.length - 1) 1 (by omega)
        rw [show gs.length - 1 + 1 = gs.length by omega] at hl
        have e3 : ((qn - 1 : Nat) : Int) * per gs m + per gs m = per gs m * (qn : Int) := by
          rw [show ((qn - 1 : Nat) : Int) = (qn : Int) - 1 by omega, Int.sub_mul, Int.one_mul, emul]
          omega
        omega
      · have h1 := hall (j - 1) (by omega)
        rw [offsD (by omega)] at h1
        rw [show j + m * qn - 1 = (j - 1) + m * qn by omega, off_turn hm0 hm1 (by omega) (by omega)]
        omega
/-! ### first_from, attempt_at -/
/-- a distance that is answered -/
def HD (gs : List Int) (tl : Tl) (d : Int) : Prop := match tl with
  | .fin => True
  | .times b => d ≤ off gs (.times b) 1000
  | .rep _ => d < 2 ^ 200
def spFF (C : Addr) : Sp := fun vs H Q _ => ∃ (p g t o : Addr) (gs : List Int) (tl : Tl) (d : Int), vs = [.ref p, .int d] ∧ RuleAt C H p g t o gs tl ∧ HD gs tl d ∧ ∀ r H', Same H H' → FF gs tl d r → Q r H'
theorem scFF : FnScope ["self", "distance"] ["self", "distance"] (defScope s_Rule_first_from) := ⟨rfl, rfl, rfl, by decide +kernel, rfl, by decide +kernel, by decide +kernel⟩
theorem ok_ff {f C fi fL fG fW : Addr} {fd fdi fdL fdG fdW : FuncData} (F : Fun K "first_from" "Rule.first_from" s_Rule_first_from f fd) (T : Txt K mg C) (FI : Fun K "is_integer" "is_integer" s_is_integer fi fdi) (bI : Binds K fdi ["value"] []) (mI : mg "is_integer" = some (.ref fi))
    (FL : Fun K "_first_at_least" "_first_at_least" s_first_at_least fL fdL) (bL : Binds K fdL ["offsets", "distance"] []) (mL : mg "_first_at_least" = some (.ref fL))
    (GG : FnOk P w K mg base CX0 4 fG fdG ["self", "distance"] (spFg C)) (bG : Binds K fdG ["self", "distance"] []) (mG : Meth K C "_first_growing" fG)
    (GW : FnOk P w K mg base CX0 3 fW fdW ["self", "distance"] (spFrp C)) (bW : Binds K fdW ["self", "distance"] []) (mW : Meth K C "_first_repeated" fW) : FnOk P w K mg base CX0 5 f fd ["self", "distance"] (spFF C) := by
  have GI : FnOk P w K mg base CX0 1 fi fdi ["value"] spIsInt := ok_isInt FI T
  have GL : FnOk P w K mg base CX0 1 fL fdL ["offsets", "distance"] spFal := ok_fal FL
  refine F.ok scFF (fun vs H Q E h => ?_) (fun cdv A outer s H vs Q E hr h => ?_)
  · obtain ⟨p, g, t, o, gs, tl, d, rfl, _⟩ := h
    rfl
  · obtain ⟨p, g, t, o, gs, tl, d, rfl, R, hd, k⟩ := h
    have hr1 := hr.mono (show 1 ≤ 4 by decide)
    refine ⟨_, (pss_cons (ps_if (pt_not (pt_val (pe_call GI hr1 rfl mI FI.kp bI .nil pass0 (pa_cons (pv 1) pa_nil)))) (pss_one ps_never) pss_nil) (pss_cons (ps_if (pt_cmpR op_le (pv 1) (pe_ix ix_list (pe_fld (pv 0) rfl) (pe_un un_neg pe_int) (fun _ _ => rfl)) (nomark _)) (pss_one (ps_ret (pe_call GL hr1 rfl mL FL.kp bL .nil pass0 (pa_cons (pe_fld (pv 0) rfl) (pa_cons (pv 1) pa_nil))))) pss_nil) (pss_cons (ps_if (pt_cmpR op_eq (pe_ix ix_tup (pe_fld (pv 0) rfl) pe_int (fun _ _ => rfl)) pe_str (nomark _)) (pss_one (ps_ret pe_non)) pss_nil) (pss_cons (ps_if (pt_cmpR op_eq (pe_ix ix_tup (pe_fld (pv 0) rfl) pe_int (fun _ _ => rfl)) pe_str (nomark _)) (pss_one (ps_ret (pe_meth (pv 0) T.cl mG GG hr bG .nil pass0 (pa_cons (pv 1) pa_nil)))) pss_nil) (pss_one (ps_ret (pe_meth (pv 0) T.cl mW GW (hr.mono (by decide)) bW .nil pass0 (pa_cons (pv 1) pa_nil)))))))), ?_⟩
    obtain ⟨dx, hob⟩ := R.ob
    refine ⟨_, rfl, d, rfl, true, rfl, iteF ?_⟩
    refine ⟨_, rfl, ?_⟩
    refine rdLastO T R rfl ⟨_, _, rfl, rfl, _, rfl, ?_⟩
    by_cases hle : d ≤ pre gs gs.length
    · refine iteTb (decide_eq_true hle) ?_
      refine rdOc T R rfl ⟨_, rfl, o, offs gs, d, gs.length, rfl, R.ho, by rw [offs_len]; omega, by rw [offsD (Nat.le_refl _)]; exact hle, fun n hn hdn hall => ?_⟩
      rw [offsD hn] at hdn
      refine k _ H (Same.refl H) (.inr ⟨n, rfl, AttOk.low R.okG hn, by rw [off_low hn]; exact hdn, fun h0 => ?_⟩)
      have := hall (n - 1) (by omega)
      rw [offsD (by omega)] at this
      rw [off_low (by omega)]
      exact this
    · refine iteFb (decide_eq_false hle) ?_
      refine rdIs T R rfl ?_
      cases tl with
      | fin =>
        refine iteTb wEE ?_
        exact k _ H (Same.refl H) (.inl ⟨rfl, rfl, by omega⟩)
      | times b =>
        refine iteFb wTE ?_
        refine rdIs T R rfl ?_
        refine iteTb wTT ?_
        exact ⟨_, rfl, p, dx, _, rfl, hob, flds_no _ _ _ (by decide +kernel) (by decide +kernel) (by decide +kernel), _, rfl, p, g, t, o, gs, b, d, rfl, R, by omega, hd, k⟩
      | rep m =>
        refine iteFb wRE ?_
        refine rdIs T R rfl ?_
        refine iteFb wRT ?_
        exact ⟨_, rfl, p, dx, _, rfl, hob, flds_no _ _ _ (by decide +kernel) (by decide +kernel) (by decide +kernel), _, rfl, p, g, t, o, gs, m, d, rfl, R, by omega, hd, k⟩
def spAA (C : Addr) : Sp := fun vs H Q _ => ∃ (p g t o : Addr) (gs : List Int) (tl : Tl) (d : Int), vs = [.ref p, .int d] ∧ RuleAt C H p g t o gs tl ∧ HD gs tl d ∧ ∀ r H', Same H H' → AA gs tl d r → Q r H'
theorem scAA : FnScope ["self", "distance", "attempt"] ["self", "distance"] (defScope s_Rule_attempt_at) := ⟨rfl, rfl, rfl, by decide +kernel, rfl, by decide +kernel, by decide +kernel⟩
theorem ok_aa {f C fF fO : Addr} {fd fdF fdO : FuncData} (F : Fun K "attempt_at" "Rule.attempt_at" s_Rule_attempt_at f fd) (T : Txt K mg C) (GF : FnOk P w K mg base CX0 5 fF fdF ["self", "distance"] (spFF C)) (bF : Binds K fdF ["self", "distance"] []) (mF : Meth K C "first_from" fF)
    (GO : FnOk P w K mg base CX0 3 fO fdO ["self", "attempt"] (spOff C)) (bO : Binds K fdO ["self", "attempt"] []) (mO : Meth K C "_offset_of" fO) : FnOk P w K mg base CX0 6 f fd ["self", "distance"] (spAA C) := by
  refine F.ok scAA (fun vs H Q E h => ?_) (fun cdv A outer s H vs Q E hr h => ?_)
  · obtain ⟨p, g, t, o, gs, tl, d, rfl, _⟩ := h
    rfl
  · obtain ⟨p, g, t, o, gs, tl, d, rfl, R, hd, k⟩ := h
    refine ⟨_, (pss_cons (ps_set (i := 2) scAA.nd rfl (Or.inl rfl) (pe_meth (pv 0) T.cl mF GF hr bF .nil pass0 (pa_cons (pv 1) pa_nil))) (pss_cons (ps_if (PW.pt (pw_or (pt_cmpR op_isN (pv 2) pe_non (nomark _)) (pw_or1 (pt_cmpR op_ne (pe_meth (pv 0) T.cl mO GO (hr.mono (by decide)) bO .nil pass0 (pa_cons (pv 2) pa_nil)) (pv 1) (nomark _))))) (pss_one (ps_ret pe_non)) pss_nil) (pss_one (ps_ret (pv 2))))), ?_⟩
    obtain ⟨dx, hob⟩ := R.ob
    refine ⟨_, rfl, p, dx, _, rfl, hob, flds_no _ _ _ (by decide +kernel) (by decide +kernel) (by decide +kernel), _, rfl, p, g, t, o, gs, tl, d, rfl, R, hd, fun r H1 S1 hf => ?_⟩
    refine ⟨_, rfl, rfl, _, rfl, ?_⟩
    rcases id hf with ⟨rfl, _⟩ | ⟨n, rfl, hn, _⟩
    · refine iteTb (decide_eq_true rfl) ?_
      refine iteT ?_
      exact k _ H1 S1 ⟨_, hf, .inr ⟨(fun n e => nomatch e), rfl⟩⟩
    · refine iteFb (decide_eq_false fun e => nomatch e) ?_
      obtain ⟨dx1, hob1⟩ := (R.mono S1).ob
      refine ⟨_, rfl, p, dx1, _, rfl, hob1, flds_no _ _ _ (by decide +kernel) (by decide +kernel) (by decide +kernel), _, rfl, p, g, t, o, gs, tl, n, rfl, R.mono S1, hn, fun H2 S2 => ?_⟩
      refine ⟨_, rfl, rfl, _, rfl, ?_⟩
      by_cases e : off gs tl n = d
      · refine iteFb (by rw [e]; show (!decide (V.int d = V.int d)) = false; rw [decide_eq_true rfl]; rfl) ?_
        exact ⟨_, rfl, k _ H2 (S1.trans S2) ⟨_, hf, .inl ⟨n, rfl, e, rfl⟩⟩⟩
      · refine iteTb (by show (!decide (V.int _ = V.int d)) = true; rw [decide_eq_false fun z => e (V.int.inj z)]; rfl) ?_
        exact k _ H2 (S1.trans S2) ⟨_, hf, .inr ⟨fun m em => by have := V.int.inj em; rw [← show n = m by omega]; exact e, rfl⟩⟩
end
end RS
namespace RS
open PySem L2
/-! ### the least repetition among as few first attempts as possible -/
abbrev Pr := Int × Int
/-- a pair of attempts below a bound -/
def InL (L : Nat) (p : Pr) : Prop := ∃ i j : Nat, p = ((i : Int), (j : Int)) ∧ i < j ∧ j < L
def dif (os : List Int) (p : Pr) : Int := os.getD p.2.toNat 0 - os.getD p.1.toNat 0
def pLt (p q : Pr) : Prop := p.1 < q.1 ∨ p.1 = q.1 ∧ p.2 < q.2
def qLt (r s : Pr × Pr) : Prop := pLt r.1 s.1 ∨ r.1 = s.1 ∧ pLt r.2 s.2
theorem pLt_tri (p q : Pr) : pLt p q ∨ p = q ∨ pLt q p := by
  unfold pLt
  rcases Int.lt_trichotomy p.1 q.1 with h | h | h
  · exact .inl (.inl h)
  · rcases Int.lt_trichotomy p.2 q.2 with h2 | h2 | h2
    · exact .inl (.inr ⟨h, h2⟩)
    · exact .inr (.inl (Prod.ext h h2))
    · exact .inr (.inr (.inr ⟨h.symm, h2⟩))
  · exact .inr (.inr (.inl h))
theorem pLt_irr (p : Pr) : ¬ pLt p p := by unfold pLt; omega
theorem pLt_asym {p q : Pr} (h : pLt p q) : ¬ pLt q p := by unfold pLt at *; omega
theorem pLt_trans {p q r : Pr} (h : pLt p q) (h2 : pLt q r) : pLt p r := by unfold pLt at *; omega
theorem qLt_tri (r s : Pr × Pr) : qLt r s ∨ r = s ∨ qLt s r := by
  unfold qLt
  rcases pLt_tri r.1 s.1 with h | h | h
  · exact .inl (.inl h)
  · rcases pLt_tri r.2 s.2 with h2 | h2 | h2
    · exact .inl (.inr ⟨h, h2⟩)
    · exact .inr (.inl (Prod.ext h h2))
    · exact .inr (.inr (.inr ⟨h.symm, h2⟩))
  · exact .inr (.inr (.inl h))
/-- two pairs below a bound, the lesser first, with the same difference -/
def RepS (os : List Int) (L : Nat) (r : Pr × Pr) : Prop := InL L r.1 ∧ InL L r.2 ∧ pLt r.1 r.2 ∧ dif os r.1 = dif os r.2
/-- the least one, of as few first attempts as have one -/
def LeastR (os : List Int) (r : Option (Pr × Pr)) : Prop := match r with
  | none => ∀ s, ¬ RepS os os.length s
  | some r => ∃ L, L < os.length ∧ (∀ s, ¬ RepS os L s) ∧ RepS os (L + 1) r ∧ ∀ s, RepS os (L + 1) s → ¬ qLt s r
theorem InL.mono {L M : Nat} {p : Pr} (h : InL L p) (hm : L ≤ M) : InL M p := by
  obtain ⟨i, j, e, h1, h2⟩ := h
  exact ⟨i, j, e, h1, by omega⟩
theorem RepS.mono {os : List Int} {L M : Nat} {r : Pr × Pr} (h : RepS os L r) (hm : L ≤ M) : RepS os M r := ⟨h.1.mono hm, h.2.1.mono hm, h.2.2⟩
theorem LeastR.one {os : List Int} {r s : Option (Pr × Pr)} (h : LeastR os r) (h2 : LeastR os s) : r = s := by
  cases r with
  | none =>
    cases s with
    | none => rfl
    | some s =>
      obtain ⟨L, hL, _, h3, _⟩ := h2
      exact absurd (h3.mono (show L + 1 ≤ os.length by omega)) (h s)
  | some r =>
    obtain ⟨L, hL, hn, hr, hl⟩ := h
    cases s with
    | none => exact absurd (hr.mono (show L + 1 ≤ os.length by omega)) (h2 r)
    | some s =>
      obtain ⟨M, hM, hn2, hs, hl2⟩ := h2
      have e : L = M := by
        rcases Nat.lt_trichotomy L M with z | z | z
        · exact absurd (hr.mono (show L + 1 ≤ M by omega)) (hn2 r)
        · exact z
        · exact absurd (hs.mono (show M + 1 ≤ L by omega)) (hn s)
      subst e
      rcases qLt_tri r s with z | z | z
      · exact absurd z (hl2 r hr)
      · rw [z]
      · exact absurd z (hl s hs)
/-- the differences of the pairs below a bound are distinct -/
theorem no_rep {os : List Int} {L : Nat} (h : ∀ s, ¬ RepS os L s) {p q : Pr} (hp : InL L p) (hq : InL L q) (e : dif os p = dif os q) : p = q := by
  rcases pLt_tri p q with z | z | z
  · exact absurd ⟨hp, hq, z, e⟩ (h (p, q))
  · exact z
  · exact absurd ⟨hq, hp, z, e.symm⟩ (h (q, p))
/-- ascending -/
def Asc (os : List Int) : Prop := ∀ i j : Nat, i < j → j < os.length → os.getD i 0 < os.getD j 0
/-- the pairs that end at one attempt -/
theorem last_or {L : Nat} {p : Pr} (h : InL (L + 1) p) : InL L p ∨ ∃ k : Nat, k < L ∧ p = ((k : Int), (L : Int)) := by
  obtain ⟨i, j, e, h1, h2⟩ := h
  by_cases z : j < L
  · exact .inl ⟨i, j, e, h1, z⟩
  · have : j = L := by omega
    subst this
    exact .inr ⟨i, h1, e⟩
theorem last_inj {os : List Int} {L k k' : Nat} (ha : Asc os) (hL : L < os.length) (hk : k < L) (hk' : k' < L) (e : dif os ((k : Int), (L : Int)) = dif os ((k' : Int), (L : Int))) : k = k' := by
  unfold dif at e
  simp only [Int.toNat_natCast] at e
  rcases Nat.lt_trichotomy k k' with z | z | z
  · have := ha k k' z (by omega)
    omega
  · exact z
  · have := ha k' k z (by omega)
    omega
end RS
namespace RS
open PySem L2
/-! ### growing gaps: which attempts tell -/
/-- n first offsets: their last gap is the first of the tail above a limit -/
structure Bey (gs : List Int) (b reach : Int) (n : Nat) : Prop where
  lo : gs.length + 2 ≤ n
  hi : reach < gapf gs (.times b) (n - 2)
  le : ∀ k, gs.length ≤ k → k < n - 2 → gapf gs (.times b) k ≤ reach
def BeyT (gs : List Int) (reach : Int) (n : Nat) : Tl → Prop
  | .times b => Bey gs b reach n
  | _ => n = gs.length + 1
/-- the offset of the attempt before the last listed gap -/
def preS (gs : List Int) : Int := pre gs (gs.length - 1)
def TellN (gs : List Int) (n : Nat) : Tl → Prop
  | .fin => n = gs.length + 1
  | .rep _ => n = gs.length + 2
  | .times b => Bey gs b (preS gs) n
section
variable {gs : List Int} {b : Int} (okG : GapsOk gs) (okT : TlOk gs.length (.times b))
include okG okT
theorem last_bd : 1 ≤ lastG gs ∧ lastG gs ≤ 1000000000000 := gap_bd okG (k := gs.length - 1) (by have := okT.1; omega)
theorem pow_two_le (k : Nat) : (2 : Int) ^ k ≤ b ^ k := by
  have h2 := okT.2.1
  induction k with
  | zero => rw [Int.pow_zero, Int.pow_zero]; exact Int.le_refl _
  | succ k ih =>
    rw [Int.pow_succ, Int.pow_succ]
    have p : (0 : Int) < 2 ^ k := Int.pow_pos (by decide)
    exact Int.mul_le_mul ih h2 (by decide) (by omega)
theorem gap_two (k : Nat) (h : gs.length ≤ k) : (2 : Int) ^ (k - gs.length + 1) ≤ gapf gs (.times b) k := by
  rw [gap_times h]
  have h1 := (last_bd okG okT).1
  have h2 := pow_two_le okG okT (k - gs.length + 1)
  have p : (0 : Int) < 2 ^ (k - gs.length + 1) := Int.pow_pos (by decide)
  have := Int.mul_le_mul h1 h2 (by omega) (by omega)
  omega
theorem gap_next {k : Nat} (h : gs.length ≤ k) : gapf gs (.times b) (k + 1) = gapf gs (.times b) k * b := gap_grow okT.1 (by omega)
theorem gap_le : ∀ (k i : Nat), gs.length ≤ k → gapf gs (.times b) k ≤ gapf gs (.times b) (k + i)
  | _, 0, _ => Int.le_refl _
  | k, i + 1, h => by
    have ih := gap_le k i h
    have hp := gap_pos okG okT (n := k + i) (fun z => nomatch z)
    rw [show k + (i + 1) = k + i + 1 by omega, gap_next okG okT (by omega)]
    have := Int.mul_le_mul_of_nonneg_left (show (1 : Int) ≤ b by have := okT.2.1; omega) (show 0 ≤ gapf gs (.times b) (k + i) by omega)
    omega
theorem Bey.bd {reach : Int} {n R : Nat} (B : Bey gs b reach n) (hR : reach < 2 ^ R) (h1 : 1 ≤ R) : n ≤ gs.length + R + 1 := by
  by_cases h : n ≤ gs.length + 2
  · omega
  · have h2 := B.le (n - 3) (by omega) (by omega)
    have h3 := gap_two okG okT (n - 3) (by omega)
    have h4 : (2 : Int) ^ (n - 3 - gs.length + 1) < 2 ^ R := by omega
    have h5 : 2 ^ (n - 3 - gs.length + 1) < 2 ^ R := by exact_mod_cast h4
    have := (Nat.pow_lt_pow_iff_right (a := 2) (by decide)).mp h5
    omega
/-- a later attempt lies farther away than the limit -/
theorem Bey.far {reach : Int} {n : Nat} (B : Bey gs b reach n) {i j : Nat} (hi : n ≤ i) (hj : j < i) : reach < off gs (.times b) i - off gs (.times b) j := by
  have h1 := off_succ okT (n := i - 1) (fun z => nomatch z)
  rw [show i - 1 + 1 = i by have := B.lo; omega] at h1
  have h2 := gap_le okG okT (n - 2) (i - 1 - (n - 2)) (by have := B.lo; omega)
  rw [show n - 2 + (i - 1 - (n - 2)) = i - 1 by have := B.lo; omega] at h2
  have h3 := B.hi
  have h4 : off gs (.times b) j ≤ off gs (.times b) (i - 1) := by
    by_cases e : j = i - 1
    · rw [e]; exact Int.le_refl _
    · exact Int.le_of_lt (off_lt okG okT (by omega) (fun z => nomatch z))
  omega
theorem pre_last : pre gs gs.length = preS gs + lastG gs := by
  have h := okT.1
  have := pre_succD (gs := gs) (k := gs.length - 1) (by omega)
  rw [show gs.length - 1 + 1 = gs.length by omega] at this
  exact this
/-- (b - 1) times the way from the offset before the last listed gap is the next gap less the last listed one -/
theorem key_off {k : Nat} (h : gs.length ≤ k) : (b - 1) * (off gs (.times b) k - preS gs) = gapf gs (.times b) k - lastG gs := by
  have h2 := okT.2.1
  rw [off_times h2 h, gap_times h, pre_last okG okT, show preS gs + lastG gs + lastG gs * b * geo b (k - gs.length) - preS gs = lastG gs + lastG gs * b * geo b (k - gs.length) by omega, Int.mul_add]
  have e : (b - 1) * (lastG gs * b * geo b (k - gs.length)) = lastG gs * b * ((b - 1) * geo b (k - gs.length)) := by
    rw [← Int.mul_assoc, Int.mul_comm (b - 1), Int.mul_assoc]
  rw [e, ← geo_eq, Int.mul_sub, Int.mul_one, Int.pow_succ, Int.mul_assoc (lastG gs) b, Int.mul_comm b (b ^ (k - gs.length)), Int.sub_mul, Int.one_mul, Int.mul_comm b (lastG gs)]
  omega
/-- a pair that ends late has a difference that another one has: just by doubled gaps -/
theorem tell_late {n : Nat} (B : Bey gs b (preS gs) n) {i j p q : Nat} (hij : i < j) (hpq : p < q) (hq : q ≤ j) (hj : n ≤ j) (hne : ¬ (i = p ∧ j = q))
    (e : off gs (.times b) j - off gs (.times b) i = off gs (.times b) q - off gs (.times b) p) : b = 2 ∧ i = j - 1 ∧ q = j - 1 ∧ off gs (.times b) p = preS gs - lastG gs := by
  have hb := okT.2.1
  have hlo := B.lo
  have hl := okT.1
  have hg1 := (last_bd okG okT).1
  have lt : ∀ {x y : Nat}, x < y → off gs (.times b) x < off gs (.times b) y := fun h => off_lt okG okT h (fun z => nomatch z)
  have le : ∀ {x y : Nat}, x ≤ y → off gs (.times b) x ≤ off gs (.times b) y := fun {x y} h => by
    rcases Nat.lt_or_eq_of_le h with z | z
    · exact Int.le_of_lt (lt z)
    · rw [z]; exact Int.le_refl _
  have hqj : q < j := by
    rcases Nat.lt_or_eq_of_le hq with z | z
    · exact z
    · subst z
      have e2 : off gs (.times b) i = off gs (.times b) p := by omega
      rcases Nat.lt_trichotomy i p with z | z | z
      · have := lt z; omega
      · exact absurd ⟨z, rfl⟩ hne
      · have := lt z; omega
  have s1 := off_succ okT (n := j - 1) (fun z => nomatch z)
  have s2 := off_succ okT (n := j - 2) (fun z => nomatch z)
  rw [show j - 1 + 1 = j by omega] at s1
  rw [show j - 2 + 1 = j - 1 by omega] at s2
  have g1 := gap_next okG okT (k := j - 2) (by omega)
  rw [show j - 2 + 1 = j - 1 by omega] at g1
  have K := key_off okG okT (k := j - 2) (by omega)
  have hx := gap_le okG okT (n - 2) (j - n) (by omega)
  rw [show n - 2 + (j - n) = j - 2 by omega] at hx
  have hx1 := B.hi
  have p0 : 0 ≤ off gs (.times b) p := by
    have := le (Nat.zero_le p)
    rw [off_low (Nat.zero_le _)] at this
    exact this
  have hys : preS gs ≤ off gs (.times b) (j - 2) := by
    have := le (show gs.length - 1 ≤ j - 2 by omega)
    rwa [off_low (by omega)] at this
  have hi1 := le (show i ≤ j - 1 by omega)
  have hq1 := le (show q ≤ j - 1 by omega)
  have b2 : b = 2 := by
    rcases Int.lt_or_le 2 b with z | z
    · exfalso
      have m1 := Int.mul_le_mul_of_nonneg_right (show 2 ≤ b - 1 by omega) (show 0 ≤ off gs (.times b) (j - 2) - preS gs by omega)
      have m2 := Int.mul_le_mul_of_nonneg_left (show 3 ≤ b by omega) (show 0 ≤ gapf gs (.times b) (j - 2) by have := gap_pos okG okT (n := j - 2) (fun z => nomatch z); omega)
      omega
    · omega
  subst b2
  refine ⟨rfl, ?_⟩
  have hi2 : i = j - 1 := by
    rcases Nat.lt_or_ge i (j - 1) with z | z
    · exfalso
      have := le (show i ≤ j - 2 by omega)
      omega
    · omega
  subst hi2
  have hq2 : q = j - 1 := by
    rcases Nat.lt_or_ge q (j - 1) with z | z
    · exfalso
      have := le (show q ≤ j - 2 by omega)
      omega
    · omega
  subst hq2
  exact ⟨rfl, rfl, by omega⟩
/-- then every later attempt does it, the first behind the listed ones too -/
theorem tell_all (hb : b = 2) {p j : Nat} (hp : off gs (.times b) p = preS gs - lastG gs) (hj : gs.length + 1 ≤ j) : off gs (.times b) (j - 1) - off gs (.times b) p = off gs (.times b) j - off gs (.times b) (j - 1) := by
  have s1 := off_succ okT (n := j - 1) (fun z => nomatch z)
  rw [show j - 1 + 1 = j by omega] at s1
  have K := key_off okG okT (k := j - 1) (by omega)
  subst hb
  omega
theorem tell_low {p : Nat} (hp : off gs (.times b) p = preS gs - lastG gs) : p < gs.length - 1 := by
  have hg1 := (last_bd okG okT).1
  have hl := okT.1
  rcases Nat.lt_or_ge p (gs.length - 1) with z | z
  · exact z
  · have := off_mono okG okT (gs.length - 1) (p - (gs.length - 1)) (fun z => nomatch z)
    rw [show gs.length - 1 + (p - (gs.length - 1)) = p by omega, off_low (n := gs.length - 1) (by omega)] at this
    have h3 : pre gs (gs.length - 1) = preS gs := rfl
    omega
end
/-- ascending, of any rule -/
theorem asc_any {gs : List Int} {tl : Tl} (okG : GapsOk gs) (okT : TlOk gs.length tl) {n : Nat} (h : tl = .fin → n ≤ gs.length + 1) : Asc (offL gs tl n) := fun i j h1 h2 => by
  rw [offL_len] at h2
  have e : ∀ k, k < n → (offL gs tl n).getD k 0 = off gs tl k := fun k hk => by rw [List.getD_eq_getElem?_getD, offL_get gs tl hk]; rfl
  rw [e i (by omega), e j h2]
  exact off_lt okG okT h1 (fun z => by have := h z; omega)
theorem offL_getD (gs : List Int) (tl : Tl) {n k : Nat} (hk : k < n) : (offL gs tl n).getD k 0 = off gs tl k := by rw [List.getD_eq_getElem?_getD, offL_get gs tl hk]; rfl
theorem pre_bd {gs : List Int} (okG : GapsOk gs) (k : Nat) (h : k ≤ gs.length) : 0 ≤ pre gs k ∧ pre gs k < 2 ^ 45 := by
  have h1 := pre_le okG k h
  have h2 := okG.1
  have : (2 : Int) ^ 45 = 35184372088832 := by decide
  omega
/-- of as few first attempts as possible: the attempts that tell are enough -/
theorem tell_least {gs : List Int} {b : Int} (okG : GapsOk gs) (okT : TlOk gs.length (.times b)) {n M : Nat} (B : Bey gs b (preS gs) n) (hM : n ≤ M) {r : Option (Pr × Pr)} (h : LeastR (offL gs (.times b) n) r) : LeastR (offL gs (.times b) M) r := by
  have hlo := B.lo
  have rs : ∀ {L : Nat} {s : Pr × Pr}, L ≤ n → (RepS (offL gs (.times b) n) L s ↔ RepS (offL gs (.times b) M) L s) := fun {L s} hL => by
    have dd : ∀ {p : Pr}, InL L p → dif (offL gs (.times b) n) p = dif (offL gs (.times b) M) p := fun {p} hp => by
      obtain ⟨i, j, rfl, h1, h2⟩ := hp
      unfold dif
      simp only [Int.toNat_natCast]
      rw [offL_getD _ _ (by omega), offL_getD _ _ (by omega), offL_getD _ _ (by omega), offL_getD _ _ (by omega)]
    constructor
    · rintro ⟨h1, h2, h3, h4⟩
      exact ⟨h1, h2, h3, by rw [← dd h1, ← dd h2]; exact h4⟩
    · rintro ⟨h1, h2, h3, h4⟩
      exact ⟨h1, h2, h3, by rw [dd h1, dd h2]; exact h4⟩
  cases r with
  | some s =>
    obtain ⟨L, hL, h1, h2, h3⟩ := h
    rw [offL_len] at hL
    exact ⟨L, by rw [offL_len]; omega, fun s hs => h1 s ((rs (by omega)).mpr hs), (rs (by omega)).mp h2, fun s hs => h3 s ((rs (by omega)).mpr hs)⟩
  | none =>
    intro s hs
    rw [offL_len] at hs
    have h : ∀ s, ¬ RepS (offL gs (.times b) n) (offL gs (.times b) n).length s := h
    rw [offL_len] at h
    -- two pairs, one of which ends late
    have key : ∀ {i j p q : Nat}, i < j → p < q → q ≤ j → j < M → ¬ (i = p ∧ j = q) → off gs (.times b) j - off gs (.times b) i = off gs (.times b) q - off gs (.times b) p → n ≤ j → False := by
      intro i j p q h1 h2 h3 h4 h5 h6 h7
      obtain ⟨e2, _, _, hp⟩ := tell_late okG okT B h1 h2 h3 h7 h5 h6
      have h8 := tell_all okG okT e2 hp (j := gs.length + 1) (Nat.le_refl _)
      have h9 := tell_low okG okT hp
      rw [show gs.length + 1 - 1 = gs.length by omega] at h8
      refine h (((p : Int), (gs.length : Int)), ((gs.length : Int), ((gs.length + 1 : Nat) : Int))) ⟨⟨p, gs.length, rfl, by omega, by omega⟩, ⟨gs.length, gs.length + 1, rfl, by omega, by omega⟩, .inl (by show (p : Int) < (gs.length : Int); omega), ?_⟩
      unfold dif
      simp only [Int.toNat_natCast]
      rw [offL_getD _ _ (by omega), offL_getD _ _ (by omega), offL_getD _ _ (by omega)]
      exact h8
    obtain ⟨⟨i, j, e1, h1, h2⟩, ⟨p, q, e3, h3, h4⟩, h5, h6⟩ := hs
    obtain ⟨s1, s2⟩ := s
    cases (show s1 = ((i : Int), (j : Int)) from e1)
    cases (show s2 = ((p : Int), (q : Int)) from e3)
    have hne : ¬ (i = p ∧ j = q) := fun ⟨z1, z2⟩ => by
      subst z1; subst z2
      exact pLt_irr _ h5
    have h7 : off gs (.times b) j - off gs (.times b) i = off gs (.times b) q - off gs (.times b) p := by
      unfold dif at h6
      simp only [Int.toNat_natCast] at h6
      rw [offL_getD _ _ (by omega), offL_getD _ _ (by omega), offL_getD _ _ (by omega), offL_getD _ _ (by omega)] at h6
      exact h6
    rcases Nat.lt_or_ge (max j q) n with z | z
    · refine h (((i : Int), (j : Int)), ((p : Int), (q : Int))) ⟨⟨i, j, rfl, h1, by omega⟩, ⟨p, q, rfl, h3, by omega⟩, h5, ?_⟩
      unfold dif
      simp only [Int.toNat_natCast]
      rw [offL_getD _ _ (by omega), offL_getD _ _ (by omega), offL_getD _ _ (by omega), offL_getD _ _ (by omega)]
      exact h7
    · rcases Nat.le_total q j with y | y
      · exact key h1 h3 y h2 hne h7 (by omega)
      · exact key h3 h1 y h4 (fun ⟨z1, z2⟩ => hne ⟨z1.symm, z2.symm⟩) h7.symm (by omega)
theorem Bey.le67 {gs : List Int} {b : Int} {n : Nat} (okG : GapsOk gs) (okT : TlOk gs.length (.times b)) (B : Bey gs b (preS gs) n) : n ≤ gs.length + 46 := Bey.bd okG okT B (pre_bd okG (gs.length - 1) (by omega)).2 (by decide)
theorem TellN.le70 {gs : List Int} {tl : Tl} {n : Nat} (okG : GapsOk gs) (okT : TlOk gs.length tl) (B : TellN gs n tl) : n ≤ 70 := by
  have h := okG.1
  cases tl with
  | fin => have : n = gs.length + 1 := B; omega
  | rep m => have : n = gs.length + 2 := B; omega
  | times b => have := Bey.le67 okG okT B; omega
end RS
namespace RS
open PySem L2
section
variable {P : Program} {w : World} {K : PySem.W.Frag} {mg : Str → Option Value} {base : Heap}
/-! ### offsets_beyond, of any tail -/
theorem gap_bd2 {gs : List Int} {b : Int} (okG : GapsOk gs) (okT : TlOk gs.length (.times b)) : gapf gs (.times b) gs.length = lastG gs * b := by
  rw [gap_times (Nat.le_refl _), Nat.sub_self, Int.pow_succ, Int.pow_zero, Int.one_mul]
def spOb (C : Addr) : Sp := fun vs H Q _ => ∃ (p g t o : Addr) (gs : List Int) (tl : Tl) (reach : Int), vs = [.ref p, .int reach] ∧ RuleAt C H p g t o gs tl ∧ reach < 2 ^ 200 ∧
  ∀ q n H', H q = none → Same H H' → BeyT gs reach n tl → H' q = some (.lst ((offL gs tl n).map V.int)) → Q (.ref q) H'
def obN : List Str := ["rule", "reach", "offsets", "gap"]
theorem scOb2 : FnScope obN ["rule", "reach"] (defScope s_offsets_beyond) := ⟨rfl, rfl, rfl, by decide +kernel, rfl, by decide +kernel, by decide +kernel⟩
theorem offs_offL2 (gs : List Int) (tl : Tl) : offs gs = offL gs tl (gs.length + 1) := by
  unfold offs offL
  exact List.map_congr_left fun k hk => (off_low (by have := List.mem_range.mp hk; omega)).symm
theorem ok_ob {f C fL fT fG : Addr} {fd fdL fdT fdG : FuncData} (F : Fun K "offsets_beyond" "offsets_beyond" s_offsets_beyond f fd) (T : Txt K mg C)
    (GL : FnOk P w K mg base CX0 2 fL fdL ["rule"] (spLO C)) (bL : Binds K fdL ["rule"] []) (mL : mg "listed_offsets" = some (.ref fL)) (kL : PySem.W.keepIn K (.ref fL) = true)
    (GT : FnOk P w K mg base CX0 1 fT fdT ["self"] (spTail C)) (bT : Binds K fdT ["self"] []) (mT : Meth K C "tail" fT)
    (GG : FnOk P w K mg base CX0 1 fG fdG ["self"] (spGaps C)) (bG : Binds K fdG ["self"] []) (mG : Meth K C "gaps" fG) : FnOk P w K mg base CX0 3 f fd ["rule", "reach"] (spOb C) := by
  refine F.ok scOb2 (fun vs H Q E h => ?_) (fun cdv A outer s H vs Q E hr h => ?_)
  · obtain ⟨p, g, t, o, gs, tl, reach, rfl, _⟩ := h
    rfl
  · obtain ⟨p, g, t, o, gs, tl, reach, rfl, R, hrc, k⟩ := h
    have hr1 := hr.mono (show 1 ≤ 2 by decide)
    refine ⟨_, (pss_cons (ps_set (i := 2) scOb2.nd rfl (Or.inl rfl) (pe_call GL hr rfl mL kL bL .nil pass0 (pa_cons (pv 0) pa_nil))) (pss_cons (ps_if (pt_cmpR op_eq (pe_ix ix_tup (pe_meth0 (pv 0) T.cl mT GT hr1 bT .nil pass0) pe_int (fun _ _ => rfl)) pe_str (nomark _)) (pss_cons (ps_set (i := 3) scOb2.nd rfl (Or.inl rfl) (pe_op op_mul (pe_ix ix_list (pe_meth0 (pv 0) T.cl mG GG hr1 bG .nil pass0) (pe_un un_neg pe_int) (fun _ _ => rfl)) (pe_ix ix_tup (pe_meth0 (pv 0) T.cl mT GT hr1 bT .nil pass0) pe_int (fun _ _ => rfl)))) (pss_cons (ps_expr (pe_bm PySem.F.plainAttrs_list PySem.F.slot_list_append PySem.F.type_list_append mt_append (pv 2) (pa_cons (pe_op op_add (pe_ix ix_list (pv 2) (pe_un un_neg pe_int) (fun _ _ => rfl)) (pv 3)) pa_nil))) (pss_one (ps_while PassesOwn.never (pt_cmpR op_le (pv 3) (pv 1) (nomark _)) (pss_cons (ps_set (i := 3) scOb2.nd rfl (Or.inl rfl) (pe_op op_mul (pv 3) (pe_ix ix_tup (pe_meth0 (pv 0) T.cl mT GT hr1 bT .nil pass0) pe_int (fun _ _ => rfl)))) (pss_one (ps_expr (pe_bm PySem.F.plainAttrs_list PySem.F.slot_list_append PySem.F.type_list_append mt_append (pv 2) (pa_cons (pe_op op_add (pe_ix ix_list (pv 2) (pe_un un_neg pe_int) (fun _ _ => rfl)) (pv 3)) pa_nil))))))))) pss_nil) (pss_one (ps_ret (pv 2))))), ?_⟩
    refine ⟨_, rfl, p, g, t, o, gs, tl, rfl, R, fun q H1 hq S1 hq1 => ?_⟩
    have R1 := R.mono S1
    rw [offs_offL2 gs tl] at hq1
    obtain ⟨dx, hob⟩ := R1.ob
    have hl20 := R1.okG.1
    have nG : (flds g t o).lookup ("gaps" : Str) = none := flds_no _ _ _ (by decide +kernel) (by decide +kernel) (by decide +kernel)
    have nT : (flds g t o).lookup ("tail" : Str) = none := flds_no _ _ _ (by decide +kernel) (by decide +kernel) (by decide +kernel)
    refine ⟨_, rfl, p, dx, _, rfl, hob, nT, p, g, t, o, gs, tl, rfl, R1, t, _, _, _, rfl, rfl, SqT.of R1.ht, tl.at0, rfl, _, rfl, ?_⟩
    cases tl with
    | fin => exact iteFb wET ⟨_, rfl, k q _ H1 hq S1 rfl hq1⟩
    | rep m => exact iteFb wRT ⟨_, rfl, k q _ H1 hq S1 rfl hq1⟩
    | times b =>
      refine iteTb wTT ?_
      have okG := R1.okG
      have okT := R1.okT
      have h0 := okT.1
      have hb0 := okT.2.1
      have hb1 := okT.2.2
      have hlast := last_bd okG okT
      -- the first further gap
      refine ⟨_, rfl, p, dx, _, rfl, hob, nG, p, g, t, o, gs, .times b, rfl, R1, fun l0 hl0 => ?_⟩
      have S2 := same_new (o := .lst (gs.map V.int)) hl0
      have hl0' : (upd H1 l0 (.lst (gs.map V.int))) l0 = some (.lst (gs.map V.int)) := upd_same
      have R2 := R1.mono S2
      have hq2 := S2 _ _ hq1
      generalize (upd H1 l0 (.lst (gs.map V.int))) = H2 at S2 hl0' R2 hq2 ⊢
      obtain ⟨dx2, hob2⟩ := R2.ob
      refine ⟨_, rfl, l0, _, _, _, rfl, rfl, SqL.of hl0', at_back1 (v := .int (lastG gs)) (by rw [List.length_map]; exact h0) (by rw [List.length_map, List.getElem?_map, getD_get (by omega)]; rfl), ?_⟩
      refine ⟨_, rfl, p, dx2, _, rfl, hob2, nT, p, g, t, o, gs, .times b, rfl, R2, t, _, _, _, rfl, rfl, SqT.of R2.ht, atI_nat (j := 1) rfl, _, _, rfl, rfl, .inr ⟨by omega, by omega⟩, ?_⟩
      have S12 := S1.trans S2
      have egap : lastG gs * b = gapf gs (.times b) gs.length := (gap_bd2 okG okT).symm
      have oflen : ∀ n, ((offL gs (.times b) n).map V.int).length = n := fun n => by rw [List.length_map, offL_len]
      have hback : ∀ n, 0 < n → atI ((offL gs (.times b) n).map V.int) (-1) = some (.int (off gs (.times b) (n - 1))) := fun n hn => at_back1 (by rw [oflen]; exact hn) (by rw [oflen, List.getElem?_map, offL_get gs _ (by omega)]; rfl)
      have hsucc : ∀ n, gs.length ≤ n → off gs (.times b) n + gapf gs (.times b) n = off gs (.times b) (n + 1) := fun n hn => (off_succ okT (fun z => nomatch z)).symm
      refine ⟨_, rfl, .inl ⟨rfl, _, SqL.of hq2⟩, _, rfl, _, rfl, q, _, _, _, rfl, rfl, SqL.of hq2, hback (gs.length + 1) (by omega), _, rfl, _, _, rfl, rfl, q, _, _, rfl, rfl, hq2, by rw [oflen]; exact small1000 (by omega), ?_⟩
      have S3 : Same H (upd H2 q (.lst ((offL gs (.times b) (gs.length + 1)).map V.int ++ [.int (off gs (.times b) (gs.length + 1 - 1) + lastG gs * b)]))) := fun b' o' e => by
        rw [upd_ne (ne_of_none e hq)]
        exact S12 _ _ e
      have eq3 : (offL gs (.times b) (gs.length + 1)).map V.int ++ [V.int (off gs (.times b) (gs.length + 1 - 1) + lastG gs * b)] = (offL gs (.times b) (gs.length + 2)).map V.int := by
        rw [egap, Nat.add_sub_cancel, hsucc _ (Nat.le_refl _), offL_succ gs (.times b) (gs.length + 1), List.map_append]
        rfl
      have R3 : RuleAt C (upd H2 q (.lst ((offL gs (.times b) (gs.length + 1)).map V.int ++ [.int (off gs (.times b) (gs.length + 1 - 1) + lastG gs * b)]))) p g t o gs (.times b) := R.mono S3
      have hq3 : (upd H2 q (.lst ((offL gs (.times b) (gs.length + 1)).map V.int ++ [.int (off gs (.times b) (gs.length + 1 - 1) + lastG gs * b)]))) q = some (.lst ((offL gs (.times b) (gs.length + 2)).map V.int)) := by rw [upd_same, eq3]
      generalize (upd H2 q (.lst ((offL gs (.times b) (gs.length + 1)).map V.int ++ [.int (off gs (.times b) (gs.length + 1 - 1) + lastG gs * b)]))) = H3 at S3 R3 hq3 ⊢
      clear S12 S2 hq2 hob2 R2 hl0' hl0 hq1 hob R1 S1
      -- the further ones
      refine ⟨fun m σ H' => ∃ n : Nat, m = (reach + 1 - gapf gs (.times b) (n - 2)).toNat ∧ gs.length + 2 ≤ n ∧ σ = [some (.ref p), some (.int reach), some (.ref q), some (.int (gapf gs (.times b) (n - 2)))] ∧ Same H H' ∧ H' q = some (.lst ((offL gs (.times b) n).map V.int)) ∧ ∀ k, gs.length ≤ k → k < n - 2 → gapf gs (.times b) k ≤ reach,
        ⟨_, gs.length + 2, rfl, Nat.le_refl _, by rw [Nat.add_sub_cancel, ← egap]; rfl, S3, hq3, fun k hk1 hk2 => absurd hk2 (by omega)⟩, ?_⟩
      rintro m σ H' ⟨n, rfl, hn, rfl, S, hq', hall⟩
      refine ⟨_, rfl, _, rfl, _, _, rfl, rfl, _, rfl, ?_⟩
      have g1 := gap_next okG okT (k := n - 2) (by omega)
      have gp := gap_pos okG okT (n := n - 2) (fun z => nomatch z)
      by_cases hle : gapf gs (.times b) (n - 2) ≤ reach
      · refine iteTb (decide_eq_true hle) ?_
        have g2 := gap_two okG okT (n - 2) (by omega)
        have hn200 : n - 2 - gs.length + 1 < 200 := by
          have h4 : (2 : Int) ^ (n - 2 - gs.length + 1) < 2 ^ 200 := by omega
          have h5 : 2 ^ (n - 2 - gs.length + 1) < 2 ^ 200 := by exact_mod_cast h4
          exact (Nat.pow_lt_pow_iff_right (a := 2) (by decide)).mp h5
        have R' := R.mono S
        obtain ⟨dx', hob'⟩ := R'.ob
        refine ⟨fun σ' H2 => σ' = [some (.ref p), some (.int reach), some (.ref q), some (.int (gapf gs (.times b) (n - 1)))] ∧ Same H H2 ∧ H2 q = some (.lst ((offL gs (.times b) (n + 1)).map V.int)), ?_, ?_⟩
        · rintro σ' H2 ⟨rfl, S2, hq2⟩
          have gm := Int.mul_le_mul_of_nonneg_left (show 2 ≤ b by omega) (show 0 ≤ gapf gs (.times b) (n - 2) by omega)
          rw [show n - 2 + 1 = n - 1 by omega] at g1
          refine ⟨_, ?_, n + 1, rfl, by omega, rfl, S2, hq2, fun k hk1 hk2 => ?_⟩
          · rw [show n + 1 - 2 = n - 1 by omega]
            omega
          · by_cases hk : k < n - 2
            · exact hall k hk1 hk
            · rw [show k = n - 2 by omega]
              exact hle
        · refine ⟨_, rfl, _, rfl, p, dx', _, rfl, hob', nT, p, g, t, o, gs, .times b, rfl, R', t, _, _, _, rfl, rfl, SqT.of R'.ht, atI_nat (j := 1) rfl, _, _, rfl, rfl, .inr ⟨by omega, by omega⟩, ?_⟩
          refine ⟨_, rfl, .inl ⟨rfl, _, SqL.of hq'⟩, _, rfl, _, rfl, q, _, _, _, rfl, rfl, SqL.of hq', hback n (by omega), _, rfl, _, _, rfl, rfl, q, _, _, rfl, rfl, hq', by rw [oflen]; exact small1000 (by omega), ?_⟩
          refine ⟨?_, fun b' o' e => ?_, ?_⟩
          · rw [show n - 2 + 1 = n - 1 by omega] at g1
            rw [g1]
            rfl
          · rw [upd_ne (ne_of_none e hq)]
            exact S b' o' e
          · have hs := hsucc (n - 1) (by omega)
            rw [show n - 1 + 1 = n by omega] at hs
            rw [upd_same, offL_succ, List.map_append, ← g1, show n - 2 + 1 = n - 1 by omega, ← hs]
            rfl
      · refine iteFb (decide_eq_false hle) ?_
        exact ⟨_, rfl, k q n H' hq S ⟨hn, by omega, hall⟩ hq'⟩
end
end RS
namespace RS
open PySem L2
section
variable {P : Program} {w : World} {K : PySem.W.Frag} {mg : Str → Option Value} {base : Heap}
/-! ### the offsets whose pairs tell, of any tail -/
def spTl2 (C : Addr) : Sp := fun vs H Q _ => ∃ (p g t o : Addr) (gs : List Int) (tl : Tl), vs = [.ref p] ∧ RuleAt C H p g t o gs tl ∧ ∀ q n H', H q = none → Same H H' → TellN gs n tl → H' q = some (.lst ((offL gs tl n).map V.int)) → Q (.ref q) H'
theorem scTo2 : FnScope ["rule", "offsets"] ["rule"] (defScope s_telling_offsets) := ⟨rfl, rfl, rfl, by decide +kernel, rfl, by decide +kernel, by decide +kernel⟩
theorem ok_to2 {f C fL fR fO fT fB : Addr} {fd fdL fdR fdO fdT fdB : FuncData} (F : Fun K "_telling_offsets" "_telling_offsets" s_telling_offsets f fd) (T : Txt K mg C)
    (GL : FnOk P w K mg base CX0 2 fL fdL ["rule"] (spLO C)) (bL : Binds K fdL ["rule"] []) (mL : mg "listed_offsets" = some (.ref fL)) (kL : PySem.W.keepIn K (.ref fL) = true)
    (GR : FnOk P w K mg base CX0 1 fR fdR ["self"] (spFRA C)) (bR : Binds K fdR ["self"] []) (mR : Meth K C "first_repeating" fR)
    (GO : FnOk P w K mg base CX0 4 fO fdO ["self", "attempt"] (spOff C)) (bO : Binds K fdO ["self", "attempt"] []) (mO : Meth K C "offset" fO)
    (GT : FnOk P w K mg base CX0 1 fT fdT ["self"] (spTail C)) (bT : Binds K fdT ["self"] []) (mT : Meth K C "tail" fT)
    (GB : FnOk P w K mg base CX0 3 fB fdB ["rule", "reach"] (spOb C)) (bB : Binds K fdB ["rule", "reach"] []) (mB : mg "offsets_beyond" = some (.ref fB)) (kB : PySem.W.keepIn K (.ref fB) = true) :
    FnOk P w K mg base CX0 5 f fd ["rule"] (spTl2 C) := by
  refine F.ok scTo2 (fun vs H Q E h => ?_) (fun cdv A outer s H vs Q E hr h => ?_)
  · obtain ⟨p, g, t, o, gs, tl, rfl, _⟩ := h
    rfl
  · obtain ⟨p, g, t, o, gs, tl, rfl, R, k⟩ := h
    have hr1 := hr.mono (show 1 ≤ 4 by decide)
    have hr2 := hr.mono (show 2 ≤ 4 by decide)
    have hr3 := hr.mono (show 3 ≤ 4 by decide)
    refine ⟨_, (pss_cons (ps_set (i := 1) scTo2.nd rfl (Or.inl rfl) (pe_call GL hr2 rfl mL kL bL .nil pass0 (pa_cons (pv 0) pa_nil))) (pss_cons (ps_if (pt_cmpR op_notN (pe_meth0 (pv 0) T.cl mR GR hr1 bR .nil pass0) pe_non (nomark _)) (pss_one (ps_ret (pe_lst (StX.pa_star (pv 1) (pa_cons (pe_meth (pv 0) T.cl mO GO hr bO .nil pass0 (pa_cons (pe_callB call_len_seq (by rfl) T.len (by decide +kernel) (pa_cons (pv 1) pa_nil)) pa_nil)) pa_nil))))) pss_nil) (pss_cons (ps_if (pt_cmpR op_eq (pe_ix ix_tup (pe_meth0 (pv 0) T.cl mT GT hr1 bT .nil pass0) pe_int (fun _ _ => rfl)) pe_str (nomark _)) (pss_one (ps_ret (pe_call GB hr3 rfl mB kB bB .nil pass0 (pa_cons (pv 0) (pa_cons (pe_ix ix_list (pv 1) (pe_un un_neg pe_int) (fun _ _ => rfl)) pa_nil))))) pss_nil) (pss_one (ps_ret (pv 1)))))), ?_⟩
    refine ⟨_, rfl, p, g, t, o, gs, tl, rfl, R, fun q H1 hq S1 hq1 => ?_⟩
    have R1 := R.mono S1
    obtain ⟨dx, hob⟩ := R1.ob
    rw [offs_offL2 gs tl] at hq1
    have hl20 := R1.okG.1
    have nF : (flds g t o).lookup ("first_repeating" : Str) = none := flds_no _ _ _ (by decide +kernel) (by decide +kernel) (by decide +kernel)
    have nO : (flds g t o).lookup ("offset" : Str) = none := flds_no _ _ _ (by decide +kernel) (by decide +kernel) (by decide +kernel)
    have nT : (flds g t o).lookup ("tail" : Str) = none := flds_no _ _ _ (by decide +kernel) (by decide +kernel) (by decide +kernel)
    refine ⟨_, rfl, p, dx, _, rfl, hob, nF, p, g, t, o, gs, tl, rfl, R1, ?_⟩
    cases tl with
    | times b =>
      refine ⟨rfl, _, rfl, iteFb rfl ?_⟩
      refine ⟨_, rfl, p, dx, _, rfl, hob, nT, p, g, t, o, gs, .times b, rfl, R1, ?_⟩
      refine ⟨t, _, _, .str "times", rfl, rfl, SqT.of R1.ht, atI_nat (j := 0) rfl, rfl, _, rfl, iteTb wTT ?_⟩
      have h0 := R1.okT.1
      have hb := pre_bd R1.okG (gs.length - 1) (by omega)
      refine ⟨_, rfl, _, rfl, _, rfl, q, _, _, .int (preS gs), rfl, rfl, SqL.of hq1, ?_, p, g, t, o, gs, .times b, preS gs, rfl, R1, ?_, fun q2 n H2 hq2 S2 hB hq22 => ?_⟩
      · refine at_back (j := 2) (by decide) (by rw [List.length_map, offL_len]; omega) ?_
        rw [List.length_map, offL_len, show gs.length + 1 - 2 = gs.length - 1 by omega, List.getElem?_map, offL_get gs _ (by omega), off_low (by omega)]
        rfl
      · have : preS gs < 2 ^ 45 := hb.2
        have h3 : (2 : Int) ^ 45 < 2 ^ 200 := by decide
        omega
      · exact k q2 n H2 (S1.free hq2) (S1.trans S2) hB hq22
    | rep m =>
      refine ⟨rfl, _, rfl, iteTb rfl ?_⟩
      refine ⟨_, rfl, q, _, rfl, .inr (SqL.of hq1), _, rfl, p, dx, _, rfl, hob, nO, _, rfl, q, _, rfl, .inl (SqL.of hq1), p, g, t, o, gs, .rep m, gs.length + 1, ?_, R1, trivial, fun H2 S2 => ?_⟩
      · show [V.ref p, V.int ((((offL gs (.rep m) (gs.length + 1)).map V.int).length : Nat) : Int)] = _
        rw [List.length_map, offL_len]
      · have e : (offL gs (.rep m) (gs.length + 1)).map V.int ++ [V.int (off gs (.rep m) (gs.length + 1))] = (offL gs (.rep m) (gs.length + 2)).map V.int := by
          rw [offL_succ gs (.rep m) (gs.length + 1), List.map_append]
          rfl
        refine ⟨?_, fun l hl => ?_⟩
        · show ((offL gs (.rep m) (gs.length + 1)).map V.int ++ [V.int (off gs (.rep m) (gs.length + 1))]).length ≤ sizeLine
          rw [e, List.length_map, offL_len]
          exact Nat.le_of_lt (small1000 (by omega))
        · show Q (.ref l) (upd H2 l (.lst ((offL gs (.rep m) (gs.length + 1)).map V.int ++ [V.int (off gs (.rep m) (gs.length + 1))])))
          rw [e]
          exact k l _ _ ((S1.trans S2).free hl) ((S1.trans S2).trans (same_new hl)) rfl upd_same
    | fin =>
      refine ⟨rfl, _, rfl, iteFb rfl ?_⟩
      refine ⟨_, rfl, p, dx, _, rfl, hob, nT, p, g, t, o, gs, .fin, rfl, R1, ?_⟩
      refine ⟨t, _, _, .str "end", rfl, rfl, SqT.of R1.ht, atI_nat (j := 0) rfl, rfl, _, rfl, iteFb rfl ?_⟩
      exact ⟨_, rfl, k q _ H1 hq S1 rfl hq1⟩
end
end RS
namespace RS
open PySem L2
/-! ### a dict of lists of clients, by whole numbers -/
def kvsOf (ks : List Int) (as : List Addr) : List (Key × V) := List.zipWith (fun r a => ((Sum.inl r : Key), V.ref a)) ks as
theorem kvsOf_len {ks : List Int} {as : List Addr} (h : as.length = ks.length) : (kvsOf ks as).length = ks.length := by
  unfold kvsOf
  rw [List.length_zipWith, h, Nat.min_self]
theorem kvsOf_keys : ∀ {ks : List Int} {as : List Addr}, as.length = ks.length → (kvsOf ks as).map (fun kv => kV kv.1) = ks.map V.int
  | [], [], _ => rfl
  | [], _ :: _, h => nomatch h
  | _ :: _, [], h => nomatch h
  | r :: ks, a :: as, h => by
    have ih := kvsOf_keys (ks := ks) (as := as) (Nat.succ.inj h)
    show kV (Sum.inl r) :: (kvsOf ks as).map (fun kv => kV kv.1) = _
    rw [ih]
    rfl
theorem kvsOf_at : ∀ {ks : List Int} {as : List Addr} {j : Nat} {r : Int} {a : Addr}, ks.Nodup → ks[j]? = some r → as[j]? = some a → valV (kvsOf ks as) (Sum.inl r) = some (.ref a)
  | [], _, _, _, _, _, h, _ => nomatch h
  | _ :: _, [], _, _, _, _, _, h => nomatch h
  | q :: ks, b :: as, 0, r, a, _, h1, h2 => by
    cases h1
    cases h2
    exact valV_pos (p := ((Sum.inl q : Key), V.ref b)) rfl
  | q :: ks, b :: as, j + 1, r, a, hn, h1, h2 => by
    have h1 : ks[j]? = some r := h1
    have hq : q ≠ r := fun e => (List.nodup_cons.mp hn).1 (e ▸ List.mem_of_getElem? h1)
    have ih := kvsOf_at (List.nodup_cons.mp hn).2 h1 h2
    show valV (((Sum.inl q : Key), V.ref b) :: kvsOf ks as) (Sum.inl r) = _
    unfold valV at ih ⊢
    rw [List.find?_cons, decide_eq_false (fun e => hq (Sum.inl.inj e))]
    exact ih
theorem kvsOf_none : ∀ {ks : List Int} {as : List Addr} {r : Int}, r ∉ ks → valV (kvsOf ks as) (Sum.inl r) = none
  | [], _, _, _ => rfl
  | _ :: _, [], _, _ => rfl
  | q :: ks, b :: as, r, h => by
    have ih := kvsOf_none (ks := ks) (as := as) (r := r) fun z => h (List.mem_cons_of_mem _ z)
    show valV (((Sum.inl q : Key), V.ref b) :: kvsOf ks as) (Sum.inl r) = _
    unfold valV at ih ⊢
    rw [List.find?_cons, decide_eq_false (fun e => h ((Sum.inl.inj e : q = r) ▸ List.mem_cons_self ..))]
    exact ih
theorem kvsOf_put {ks : List Int} {as : List Addr} {r : Int} {a : Addr} (hl : as.length = ks.length) (h : r ∉ ks) : putK (kvsOf ks as) (Sum.inl r) (.ref a) = kvsOf (ks ++ [r]) (as ++ [a]) := by
  unfold putK
  rw [valV_any, kvsOf_none h, if_neg (by decide)]
  unfold kvsOf
  rw [List.zipWith_append hl.symm]
  rfl
theorem nodup_at {α : Type} : ∀ {l : List α} {i j : Nat} {x : α}, l.Nodup → l[i]? = some x → l[j]? = some x → i = j
  | [], _, _, _, _, h, _ => nomatch h
  | _ :: _, 0, 0, _, _, _, _ => rfl
  | a :: l, 0, j + 1, x, hn, h1, h2 => by
    cases h1
    exact absurd (List.mem_of_getElem? (show l[j]? = some a from h2)) (List.nodup_cons.mp hn).1
  | a :: l, i + 1, 0, x, hn, h1, h2 => by
    cases h2
    exact absurd (List.mem_of_getElem? (show l[i]? = some a from h1)) (List.nodup_cons.mp hn).1
  | a :: l, i + 1, j + 1, x, hn, h1, h2 => by
    rw [nodup_at (l := l) (List.nodup_cons.mp hn).2 h1 h2]
theorem nodup_one {α : Type} (a : α) : [a].Nodup := List.nodup_cons.mpr ⟨(fun h => nomatch h), List.Pairwise.nil⟩
end RS
namespace RS
open PySem L2
/-! ### a dict of lists, by whole numbers -/
structure DictV (H : Hp) (d : Addr) (ks : List Int) (as : List Addr) (f : Int → List V) : Prop where
  hd : H d = some (.dK (kvsOf ks as))
  nk : ks.Nodup
  na : as.Nodup
  len : as.length = ks.length
  ls : ∀ (j : Nat) (r : Int) (a : Addr), ks[j]? = some r → as[j]? = some a → H a = some (.lst (f r))
  out : ∀ r, r ∉ ks → f r = []
theorem DictV.keep {H H' : Hp} {d : Addr} {ks : List Int} {as : List Addr} {f : Int → List V} (D : DictV H d ks as f) (h1 : H' d = H d) (h2 : ∀ a ∈ as, H' a = H a) : DictV H' d ks as f :=
  ⟨h1.trans D.hd, D.nk, D.na, D.len, fun j r a e1 e2 => (h2 a (List.mem_of_getElem? e2)).trans (D.ls j r a e1 e2), D.out⟩
theorem DictV.some_ {H : Hp} {d : Addr} {ks : List Int} {as : List Addr} {f : Int → List V} (D : DictV H d ks as f) {a : Addr} (h : a ∈ as) : ∃ r, H a = some (.lst (f r)) := by
  obtain ⟨j, hj, e⟩ := List.mem_iff_getElem.mp h
  have hk : j < ks.length := by rw [← D.len]; exact hj
  exact ⟨ks[j], D.ls j _ a (List.getElem?_eq_getElem hk) (e ▸ List.getElem?_eq_getElem hj)⟩
theorem DictV.same {H H' : Hp} {d : Addr} {ks : List Int} {as : List Addr} {f : Int → List V} (D : DictV H d ks as f) (S : Same H H') : DictV H' d ks as f :=
  D.keep ((S _ _ D.hd).trans D.hd.symm) fun a ha => let ⟨_, e⟩ := D.some_ ha; (S _ _ e).trans e.symm
theorem DictV.nd {H : Hp} {d : Addr} {ks : List Int} {as : List Addr} {f : Int → List V} (D : DictV H d ks as f) : d ∉ as := fun h => by
  obtain ⟨r, e⟩ := D.some_ h
  rw [D.hd] at e
  cases e
/-- where the list of a number stands -/
theorem DictV.at_ {H : Hp} {d : Addr} {ks : List Int} {as : List Addr} {f : Int → List V} (D : DictV H d ks as f) {r : Int} (h : r ∈ ks) : ∃ (j : Nat) (a : Addr), ks[j]? = some r ∧ as[j]? = some a ∧ H a = some (.lst (f r)) ∧ valV (kvsOf ks as) (Sum.inl r) = some (.ref a) := by
  obtain ⟨j, hj, e⟩ := List.mem_iff_getElem.mp h
  have hk : ks[j]? = some r := e ▸ List.getElem?_eq_getElem hj
  have ha : as[j]? = some (as[j]'(by rw [D.len]; exact hj)) := List.getElem?_eq_getElem _
  exact ⟨j, _, hk, ha, D.ls j r _ hk ha, kvsOf_at D.nk hk ha⟩
/-- another list for a number -/
theorem DictV.set {H : Hp} {d : Addr} {ks : List Int} {as : List Addr} {f : Int → List V} (D : DictV H d ks as f) {j : Nat} {r : Int} {a : Addr} (h1 : ks[j]? = some r) (h2 : as[j]? = some a) (l : List V) : DictV (upd H a (.lst l)) d ks as (fun x => if x = r then l else f x) := by
  have hm := List.mem_of_getElem? h2
  refine ⟨by rw [upd_ne (fun (e : d = a) => D.nd (by rw [e]; exact hm))]; exact D.hd, D.nk, D.na, D.len, fun j' r' a' e1 e2 => ?_, fun x hx => ?_⟩
  · by_cases hj : j' = j
    · subst hj
      rw [h1] at e1
      rw [h2] at e2
      cases e1
      cases e2
      rw [upd_same, if_pos rfl]
    · have hr : r' ≠ r := fun e => by
        subst e
        exact hj (nodup_at D.nk e1 h1)
      have ha : a' ≠ a := fun e => by
        subst e
        exact hj (nodup_at D.na e2 h2)
      rw [upd_ne ha, if_neg hr]
      exact D.ls j' r' a' e1 e2
  · show (if x = r then l else f x) = []
    rw [if_neg (fun (e : x = r) => hx (by rw [e]; exact List.mem_of_getElem? h1))]
    exact D.out x hx
/-- a number that is new -/
theorem DictV.add {H : Hp} {d : Addr} {ks : List Int} {as : List Addr} {f : Int → List V} (D : DictV H d ks as f) {r : Int} {a : Addr} (h : r ∉ ks) (ha : H a = none) : DictV (upd (upd H a (.lst [])) d (.dK (putK (kvsOf ks as) (Sum.inl r) (.ref a)))) d (ks ++ [r]) (as ++ [a]) f := by
  have nad : a ≠ d := (ne_of_none D.hd ha).symm
  have nas : a ∉ as := fun z => by
    obtain ⟨x, e⟩ := D.some_ z
    rw [ha] at e
    cases e
  refine ⟨by rw [upd_same, kvsOf_put D.len h], ?_, ?_, by rw [List.length_append, List.length_append, D.len]; rfl, fun j r' a' e1 e2 => ?_, fun x hx => D.out x fun z => hx (List.mem_append_left _ z)⟩
  · exact List.nodup_append.mpr ⟨D.nk, nodup_one r, fun x hx y hy e => h (by rw [← List.mem_singleton.mp hy, ← e]; exact hx)⟩
  · exact List.nodup_append.mpr ⟨D.na, nodup_one a, fun x hx y hy e => nas (by rw [← List.mem_singleton.mp hy, ← e]; exact hx)⟩
  · by_cases hj : j < ks.length
    · rw [List.getElem?_append_left hj] at e1
      rw [List.getElem?_append_left (by rw [D.len]; exact hj)] at e2
      have hm := List.mem_of_getElem? e2
      rw [upd_ne (fun (e : a' = d) => D.nd (by rw [← e]; exact hm)), upd_ne (fun (e : a' = a) => nas (by rw [← e]; exact hm))]
      exact D.ls j r' a' e1 e2
    · rw [List.getElem?_append_right (by omega)] at e1
      rw [List.getElem?_append_right (by rw [D.len]; omega)] at e2
      have z1 := List.getElem?_eq_some_iff.mp e1
      have z2 := List.getElem?_eq_some_iff.mp e2
      have y1 : r' = r := by
        have := List.mem_of_getElem? e1
        exact List.mem_singleton.mp this
      have y2 : a' = a := by
        have := List.mem_of_getElem? e2
        exact List.mem_singleton.mp this
      subst y1 y2
      rw [upd_ne nad, upd_same, D.out _ h]
/-! ### the pairs by their difference -/
/-- the pairs of first attempts, in their order, up to a pair -/
structure UpTo (n i j : Nat) (ps : List Pr) : Prop where
  pw : ps.Pairwise pLt
  mem : ∀ p : Pr, p ∈ ps ↔ InL n p ∧ (p.1 < (i : Int) ∨ p.1 = (i : Int) ∧ p.2 < (j : Int))
theorem UpTo.zero (n : Nat) : UpTo n 0 0 [] := ⟨List.Pairwise.nil, fun p => ⟨(fun h => nomatch h), (fun ⟨⟨a, b, e, h1, h2⟩, h3⟩ => by
  subst e
  have h3 : ((a : Int) < ((0 : Nat) : Int)) ∨ (a : Int) = ((0 : Nat) : Int) ∧ (b : Int) < ((0 : Nat) : Int) := h3
  omega)⟩⟩
theorem UpTo.row {n i : Nat} {ps : List Pr} (h : UpTo n i 0 ps) : UpTo n i (i + 1) ps := ⟨h.pw, fun p => (h.mem p).trans ⟨fun ⟨a, b⟩ => ⟨a, by omega⟩, fun ⟨a, b⟩ => ⟨a, by
  obtain ⟨x, y, rfl, h1, h2⟩ := a
  simp only at b ⊢
  omega⟩⟩⟩
theorem UpTo.next {n i : Nat} {ps : List Pr} (h : UpTo n i n ps) : UpTo n (i + 1) 0 ps := ⟨h.pw, fun p => (h.mem p).trans ⟨fun ⟨a, b⟩ => ⟨a, by
  obtain ⟨x, y, rfl, h1, h2⟩ := a
  simp only at b ⊢
  omega⟩, fun ⟨a, b⟩ => ⟨a, by
  obtain ⟨x, y, rfl, h1, h2⟩ := a
  simp only at b ⊢
  omega⟩⟩⟩
theorem UpTo.step {n i j : Nat} {ps : List Pr} (h : UpTo n i j ps) (h1 : i < j) (h2 : j < n) : UpTo n i (j + 1) (ps ++ [((i : Int), (j : Int))]) := by
  refine ⟨List.pairwise_append.mpr ⟨h.pw, List.pairwise_singleton .., fun p hp q hq => ?_⟩, fun p => ?_⟩
  · rw [List.mem_singleton.mp hq]
    exact ((h.mem p).mp hp).2
  · rw [List.mem_append, List.mem_singleton, h.mem p]
    constructor
    · rintro (⟨a, b⟩ | rfl)
      · exact ⟨a, by omega⟩
      · exact ⟨⟨i, j, rfl, h1, h2⟩, .inr ⟨rfl, by show (j : Int) < ((j + 1 : Nat) : Int); omega⟩⟩
    · rintro ⟨a, b⟩
      by_cases e : p.1 = (i : Int) ∧ p.2 = (j : Int)
      · exact .inr (Prod.ext e.1 e.2)
      · exact .inl ⟨a, by omega⟩
/-- the pairs with a difference -/
def grp (os : List Int) (ps : List Pr) (r : Int) : List Pr := ps.filter fun p => decide (dif os p = r)
theorem grp_snoc (os : List Int) (ps : List Pr) (p : Pr) (r : Int) : grp os (ps ++ [p]) r = if r = dif os p then grp os ps r ++ [p] else grp os ps r := by
  unfold grp
  rw [List.filter_append]
  by_cases h : r = dif os p
  · rw [if_pos h, List.filter_cons, if_pos (decide_eq_true h.symm)]
    rfl
  · rw [if_neg h, List.filter_cons, if_neg (by rw [decide_eq_false (fun e => h e.symm)]; decide)]
    exact List.append_nil _
end RS
namespace RS
open PySem L2
structure GrpAt (H H' : Hp) (d : Addr) (ks : List Int) (as : List Addr) (ad : Int → List Addr) (os : List Int) (PS : List Pr) (n i j : Nat) : Prop where
  S : Same H H'
  D : DictV H' d ks as (fun r => (ad r).map V.ref)
  tp : ∀ r, TupsI H' (ad r) (grp os PS r)
  up : UpTo n i j PS
  fr : ∀ a ∈ as, H a = none
  lk : ks.length ≤ PS.length
  lp : PS.length ≤ 70 * i + j
  kne : ∀ r ∈ ks, grp os PS r ≠ []
theorem GrpAt.same {H H' H2 : Hp} {d : Addr} {ks : List Int} {as : List Addr} {ad : Int → List Addr} {os : List Int} {PS : List Pr} {n i j : Nat} (G : GrpAt H H' d ks as ad os PS n i j) (S : Same H' H2) : GrpAt H H2 d ks as ad os PS n i j :=
  ⟨G.S.trans S, G.D.same S, fun r => (G.tp r).same S, G.up, G.fr, G.lk, G.lp, G.kne⟩
theorem GrpAt.len {H H' : Hp} {d : Addr} {ks : List Int} {as : List Addr} {ad : Int → List Addr} {os : List Int} {PS : List Pr} {n i j : Nat} (G : GrpAt H H' d ks as ad os PS n i j) (r : Int) : (ad r).length ≤ PS.length := by
  rw [(G.tp r).1]
  exact List.length_filter_le ..
/-- the pair enters its list -/
theorem GrpAt.put {H H' : Hp} {d a u : Addr} {ks : List Int} {as : List Addr} {ad : Int → List Addr} {os : List Int} {PS : List Pr} {n i j jx : Nat} {r : Int} {v : List V} (D : DictV H' d ks as (fun r => (ad r).map V.ref)) (S : Same H H') (tp : ∀ r, TupsI H' (ad r) (grp os PS r)) (up : UpTo n i j PS) (fr : ∀ a ∈ as, H a = none) (lk : ks.length ≤ PS.length + 1) (lp : PS.length ≤ 70 * i + j) (kne : ∀ x ∈ ks, x ≠ r → grp os PS x ≠ [])
    (hr : r = dif os ((i : Int), (j : Int))) (h1 : ks[jx]? = some r) (h2 : as[jx]? = some a) (hu : H' u = some (.tup [.int (i : Int), .int (j : Int)])) (hij : i < j) (hj : j < n) (hv : v = (ad r).map V.ref ++ [V.ref u]) :
    GrpAt H (upd H' a (.lst v)) d ks as (fun x => if x = r then ad r ++ [u] else ad x) os (PS ++ [((i : Int), (j : Int))]) n i (j + 1) := by
  subst hv
  have ha := D.ls jx r a h1 h2
  have nt : ∀ (y : Addr) (xs : List V), H' y = some (.tup xs) → upd H' a (.lst ((ad r).map V.ref ++ [V.ref u])) y = some (.tup xs) := fun y xs e => by
    rw [upd_ne (ne_of e ha (by intro z; cases z))]
    exact e
  refine ⟨fun b o e => ?_, ?_, fun x => ?_, up.step hij hj, fr, by rw [List.length_append]; exact lk, by rw [List.length_append, List.length_singleton]; omega, fun x hx => ?_⟩
  · rw [upd_ne (ne_of_none e (fr a (List.mem_of_getElem? h2)))]
    exact S _ _ e
  · have := D.set h1 h2 ((ad r).map V.ref ++ [V.ref u])
    have e : (fun x => if x = r then (ad r).map V.ref ++ [V.ref u] else (ad x).map V.ref) = fun x => (if x = r then ad r ++ [u] else ad x).map V.ref := by
      funext x
      split
      · rw [List.map_append]
        rfl
      · rfl
    rw [e] at this
    exact this
  · show TupsI _ (if x = r then ad r ++ [u] else ad x) _
    rw [grp_snoc, ← hr]
    by_cases hx : x = r
    · subst hx
      rw [if_pos rfl, if_pos rfl]
      exact ((tp x).kx nt).snoc (nt _ _ hu)
    · rw [if_neg hx, if_neg hx]
      exact (tp x).kx nt
  · rw [grp_snoc, ← hr]
    by_cases hxr : x = r
    · rw [if_pos hxr]
      exact fun z => nomatch (List.append_eq_nil_iff.mp z).2
    · rw [if_neg hxr]
      exact kne x hx hxr
section
variable {P : Program} {w : World} {K : PySem.W.Frag} {mg : Str → Option Value} {base : Heap}
def spPd : Sp := fun vs H Q _ => ∃ (q : Addr) (os : List Int), vs = [.ref q] ∧ H q = some (.lst (os.map V.int)) ∧ os.length ≤ 70 ∧ ∀ d ks as ad PS H', H d = none → GrpAt H H' d ks as ad os PS os.length os.length 0 → Q (.ref d) H'
def pdN : List Str := ["offsets", "groups", "first", "second"]
theorem scPd : FnScope pdN ["offsets"] (defScope s_pairs_by_difference) := ⟨rfl, rfl, rfl, by decide +kernel, rfl, by decide +kernel, by decide +kernel⟩
theorem ok_pd {f C : Addr} {fd : FuncData} (F : Fun K "_pairs_by_difference" "_pairs_by_difference" s_pairs_by_difference f fd) (T : Txt K mg C) : FnOk P w K mg base CX0 1 f fd ["offsets"] spPd := by
  refine F.ok scPd (fun vs H Q E h => ?_) (fun cdv A outer s H vs Q E hr h => ?_)
  · obtain ⟨q, os, rfl, _⟩ := h
    rfl
  · obtain ⟨q, os, rfl, hq, hl, k⟩ := h
    refine ⟨_, (pss_cons (ps_set (i := 1) scPd.nd rfl (Or.inl rfl) pe_dnewK) (pss_cons (ps_for PassesOwn.never rfl (pi_range1 rfl T.range (pa_cons (pe_callB call_len_seq (by rfl) T.len (by decide +kernel) (pa_cons (pv 0) pa_nil)) pa_nil)) (pg_name (i := 2) scPd.nd rfl (Or.inl rfl)) (pss_one (ps_for PassesOwn.never rfl (pi_range2 rfl T.range (pa_cons (pe_op op_add (pv 2) pe_int) (pa_cons (pe_callB call_len_seq (by rfl) T.len (by decide +kernel) (pa_cons (pv 0) pa_nil)) pa_nil))) (pg_name (i := 3) scPd.nd rfl (Or.inl rfl)) (pss_one (ps_expr (pe_bm PySem.F.plainAttrs_list PySem.F.slot_list_append PySem.F.type_list_append mt_append (L2.pe_dsetd (pv 1) (pe_op op_sub (pe_ix ix_list (pv 0) (pv 3) (fun _ _ => rfl)) (pe_ix ix_list (pv 0) (pv 2) (fun _ _ => rfl))) (pe_lst pa_nil) ⟨by rfl, by rfl, by rfl, by rfl⟩) (pa_cons (pe_tup (pa_cons (pv 2) (pa_cons (pv 3) pa_nil))) pa_nil))))))) (pss_one (ps_ret (pv 1))))), ?_⟩
    intro d hd
    have hd0 : (upd H d (.dK [])) d = some (.dK []) := upd_same
    have S0 : Same H (upd H d (.dK [])) := same_new hd
    refine ⟨_, rfl, q, _, rfl, .inl (SqL.of (S0 _ _ hq)), ?_⟩
    have hn : ((((os.map V.int).length : Nat) : Int)).toNat = os.length := by rw [List.length_map, Int.toNat_natCast]
    refine ⟨_, rfl, by rw [List.length_map]; omega, by rw [List.length_map]; omega, for_range (lo := 0) (n := ((((os.map V.int).length : Nat) : Int)).toNat) (fun i σ H' => ∃ (v2 v3 : Option V) (ks : List Int) (as : List Addr) (ad : Int → List Addr) (PS : List Pr), σ = [some (.ref q), some (.ref d), v2, v3] ∧ GrpAt H H' d ks as ad os PS os.length i 0)
      ⟨none, none, [], [], fun _ => [], [], rfl, S0, ⟨hd0, List.Pairwise.nil, List.Pairwise.nil, rfl, (fun j r a h => nomatch h), fun r _ => rfl⟩, fun r => TupsI.nil, UpTo.zero _, (fun a h => nomatch h), Nat.le_refl _, Nat.zero_le _, (fun r h => nomatch h)⟩ ?_ ?_⟩
    · rintro i σ H1 hi ⟨v2, v3, ks, as, ad, PS, rfl, G⟩
      rw [hn] at hi
      refine ⟨_, rfl, _, _, rfl, rfl, _, rfl, q, _, rfl, .inl (SqL.of (G.S _ _ hq)), ?_⟩
      have hn2 : ((((os.map V.int).length : Nat) : Int) - ((0 : Int) + (i : Int) + 1)).toNat = os.length - (i + 1) := by
        rw [List.length_map]
        omega
      have hyi : os[i]? = some (os.getD i 0) := by rw [List.getD_eq_getElem?_getD, List.getElem?_eq_getElem hi]; rfl
      refine ⟨_, _, rfl, ⟨by omega, by omega, by rw [List.length_map]; omega, by rw [List.length_map]; omega⟩, for_range (lo := (0 : Int) + (i : Int) + 1) (n := ((((os.map V.int).length : Nat) : Int) - ((0 : Int) + (i : Int) + 1)).toNat) (fun k2 σ H' => ∃ (v3 : Option V) (ks : List Int) (as : List Addr) (ad : Int → List Addr) (PS : List Pr), σ = [some (.ref q), some (.ref d), some (.int ((0 : Int) + (i : Int))), v3] ∧ GrpAt H H' d ks as ad os PS os.length i (i + 1 + k2))
        ⟨v3, ks, as, ad, PS, rfl, ⟨G.S, G.D, G.tp, G.up.row, G.fr, G.lk, by have := G.lp; omega, G.kne⟩⟩ ?_ ?_⟩
      · rintro k2 σ H2 hk2 ⟨v3, ks, as, ad, PS, rfl, G⟩
        rw [hn2] at hk2
        have hj : i + 1 + k2 < os.length := by omega
        generalize hjj : i + 1 + k2 = j at hj G ⊢
        have hyj : os[j]? = some (os.getD j 0) := by rw [List.getD_eq_getElem?_getD, List.getElem?_eq_getElem hj]; rfl
        have e3 : (0 : Int) + (i : Int) + 1 + (k2 : Int) = (j : Int) := by omega
        have e2 : (0 : Int) + (i : Int) = (i : Int) := by omega
        have hq2 := G.S _ _ hq
        dsimp only [gName]
        rw [e3, e2]
        have hxj : atI (os.map V.int) (j : Int) = some (.int (os.getD j 0)) := atI_nat (by rw [List.getElem?_map, hyj]; rfl)
        have hxi : atI (os.map V.int) (i : Int) = some (.int (os.getD i 0)) := atI_nat (by rw [List.getElem?_map, hyi]; rfl)
        refine ⟨_, rfl, d, rfl, .inl ⟨_, .inl G.D.hd⟩, _, rfl, _, rfl, q, _, _, _, rfl, rfl, SqL.of hq2, hxj, _, rfl, _, rfl, q, _, _, _, rfl, rfl, SqL.of hq2, hxi, _, _, rfl, rfl, (by show 0 ≤ sizeLine; decide), fun l hl0 => ?_⟩
        have hij : i < j := by omega
        have S3 := same_new (o := .lst []) hl0
        have hll : (upd H2 l (.lst [])) l = some (.lst []) := upd_same
        have G3 := G.same S3
        have hlH : H l = none := G.S.free hl0
        have hks : ks.length ≤ 100000 := by have := G.lk; have := G.lp; omega
        have hPS : PS.length ≤ 5000 := by have := G.lp; omega
        have nld : l ≠ d := (ne_of_none G.D.hd hl0).symm
        have edif : os.getD j 0 - os.getD i 0 = dif os ((i : Int), (j : Int)) := rfl
        have S3d := S3 _ _ G.D.hd
        refine ⟨kvsOf ks as, Sum.inl (dif os ((i : Int), (j : Int))), S3d, rfl, by rw [kvsOf_len G.D.len]; exact small_line hks, fun v hv => ?_, fun hv => ?_⟩
        · by_cases hm : dif os ((i : Int), (j : Int)) ∈ ks
          case neg =>
            rw [kvsOf_none hm] at hv
            cases hv
          obtain ⟨jx, a, hk', ha', hla, hval⟩ := G.D.at_ hm
          rw [hval] at hv
          cases hv
          have hla3 := S3 _ _ hla
          refine ⟨.inl ⟨rfl, _, SqL.of hla3⟩, _, rfl, _, rfl, (by show 2 ≤ sizeLine; decide), fun u hu => ?_⟩
          have S4 := same_new (o := .tup [.int (i : Int), .int (j : Int)]) hu
          have G4 := G3.same S4
          refine ⟨a, _, _, rfl, rfl, S4 _ _ hla3, (by rw [List.length_map]; have := G.len (dif os ((i : Int), (j : Int))); exact small_line (by omega)), ?_⟩
          have G5 := GrpAt.put G4.D G4.S G4.tp G4.up G4.fr (Nat.le_succ_of_le G4.lk) G4.lp (fun x hx _ => G4.kne x hx) rfl hk' ha' upd_same hij hj rfl
          exact ⟨_, ks, as, _, _, rfl, (show i + 1 + (k2 + 1) = j + 1 by omega) ▸ G5⟩
        · have hm : dif os ((i : Int), (j : Int)) ∉ ks := fun hm => by
            obtain ⟨jx, a, hk', ha', hla, hval⟩ := G.D.at_ hm
            rw [hval] at hv
            cases hv
          have D3 := G.D.add hm hl0
          have ead : ad (dif os ((i : Int), (j : Int))) = [] := List.map_eq_nil_iff.mp (G.D.out _ hm)
          have hl3 : (upd (upd H2 l (.lst [])) d (.dK (putK (kvsOf ks as) (Sum.inl (dif os ((i : Int), (j : Int)))) (.ref l)))) l = some (.lst []) := by rw [upd_ne nld]; exact hll
          have S5 : Same H (upd (upd H2 l (.lst [])) d (.dK (putK (kvsOf ks as) (Sum.inl (dif os ((i : Int), (j : Int)))) (.ref l)))) := fun b o e => by
            rw [upd_ne (ne_of_none e hd)]
            exact G3.S _ _ e
          have tp5 : ∀ r, TupsI (upd (upd H2 l (.lst [])) d (.dK (putK (kvsOf ks as) (Sum.inl (dif os ((i : Int), (j : Int)))) (.ref l)))) (ad r) (grp os PS r) := fun r => (G3.tp r).kx fun y xs e => by
            rw [upd_ne (ne_of e S3d (by intro z; cases z))]
            exact e
          generalize (upd (upd H2 l (.lst [])) d (.dK (putK (kvsOf ks as) (Sum.inl (dif os ((i : Int), (j : Int)))) (.ref l)))) = H5 at D3 hl3 S5 tp5
          refine ⟨.inl ⟨rfl, _, SqL.of hl3⟩, _, rfl, _, rfl, (by show 2 ≤ sizeLine; decide), fun u hu => ?_⟩
          have S6 := same_new (o := .tup [.int (i : Int), .int (j : Int)]) hu
          refine ⟨l, _, _, rfl, rfl, S6 _ _ hl3, (by show 0 < sizeLine; decide), ?_⟩
          have hkn : (ks ++ [dif os ((i : Int), (j : Int))])[ks.length]? = some (dif os ((i : Int), (j : Int))) := by rw [List.getElem?_append_right (Nat.le_refl _), Nat.sub_self]; rfl
          have han : (as ++ [l])[ks.length]? = some l := by rw [← G.D.len, List.getElem?_append_right (Nat.le_refl _), Nat.sub_self]; rfl
          have G7 := GrpAt.put (D3.same S6) (S5.trans S6) (fun r => (tp5 r).same S6) G.up (fun a ha => (List.mem_append.mp ha).elim (G.fr a) (fun z => by rw [List.mem_singleton.mp z]; exact hlH)) (by rw [List.length_append, List.length_singleton]; have := G.lk; omega) G.lp (fun x hx hne => (List.mem_append.mp hx).elim (G.kne x) (fun z => absurd (List.mem_singleton.mp z) hne)) rfl hkn han upd_same hij hj (v := [] ++ [V.ref u]) (by rw [ead]; rfl)
          exact ⟨_, ks ++ [dif os ((i : Int), (j : Int))], as ++ [l], _, _, rfl, (show i + 1 + (k2 + 1) = j + 1 by omega) ▸ G7⟩
      · rintro σ H2 ⟨v3, ks, as, ad, PS, rfl, G⟩
        rw [hn2, show i + 1 + (os.length - (i + 1)) = os.length by omega] at G
        exact ⟨_, _, ks, as, ad, PS, rfl, G.S, G.D, G.tp, G.up.next, G.fr, G.lk, by have := G.lp; omega, G.kne⟩
    · rintro σ H1 ⟨v2, v3, ks, as, ad, PS, rfl, G⟩
      rw [hn] at G
      exact ⟨_, rfl, k d ks as ad PS H1 hd G⟩
end
end RS
namespace RS
open PySem L2 PySem.Spec PyProof.Rows
/-! ### min(xs, default = v) of a list of ints: the machine's loop, with a keyword handed along -/
section
variable {prog : Program} {w : World} {A : Around} {R : Result → Shared → Prop} {I : Addr} {fp wr : List Addr} {n : Nat} {Pn : Nat → Value → Prop} {Sn : Nat → Heap → Prop} {kw : List (Str × Value)}
theorem minLoopName : (toString "min" ++ toString ".loop" : String) = "min.loop" := by decide
theorem min_turns (W : Walks prog w A.in1 I fp wr n Pn Sn) (bt : Nat → Nat → Bool) (cmp : CmpOf prog w A.in1 .Lt Pn bt) (S : Addr) (nS : S ∉ fp) : ∀ (k j : Nat) (s : Shared) (vb : Value) (c : Nat),
    n - (j + 1) = k → j + 1 ≤ n → Sn (j + 1) s.heap → Pn (argBest bt j) vb → s.heap.get? S = some { cls := .type "list", dict := none, data := .seq #[vb, vb] c, slots := #[] } →
    (∀ v h' tk, Pn (argBest bt (n - 1)) v → (∀ b o, b ∉ wr → b ≠ S → s.heap.get? b = some o → h'.get? b = some o) →
      R (.ok (.ret v)) { s with heap := h', toks := tk }) →
    codeAny (model prog w) A (.builtin "min.loop" ⟨[.ref I, .none, .ref S], kw⟩) R s := by
  have nSw : S ∉ wr := fun z => nS (W.sub _ z)
  intro k
  induction k with
  | zero =>
    intro j s vb c ek hj st pb hS hR
    obtain rfl : n = j + 1 := by omega
    refine codeAny_builtin F.entry_min_loop ?_
    rw [Around.under_plainId F.plain_min_loop _]
    show wpAny _ A.in1 (seqItems? (Value.ref S) >>= _) _ _ s
    refine wpAny_bind (wpAny_seqItems hS rfl ?_)
    show wpAny _ A.in1 (tryCatch (pyNext (Value.ref I)) _ >>= _) _ _ s
    refine wpAny_bind (wpAny_tryCatch (W.done s _ _ st ?_))
    intro h' tk hk
    have hS2 := hk S _ nSw hS
    show wpAny _ A.in1 (updateSeq S (fun _ => (#[] : Array Value)) >>= _) _ _ _
    refine wpAny_bind (wpAny_updateSeq hS2 rfl (wpAny_bind (wpAny_letGo (wpAny_pure ?_))))
    exact hR vb _ tk pb fun b o nb nbS e => (Heap.get?_update_other _ _ (Ne.symm nbS)).trans (hk b o nb e)
  | succ k ih =>
    intro j s vb c ek hj st pb hS hR
    have lt : j + 1 < n := by omega
    refine codeAny_builtin F.entry_min_loop ?_
    rw [Around.under_plainId F.plain_min_loop _]
    show wpAny _ A.in1 (seqItems? (Value.ref S) >>= _) _ _ s
    refine wpAny_bind (wpAny_seqItems hS rfl ?_)
    show wpAny _ A.in1 (tryCatch (pyNext (Value.ref I)) _ >>= _) _ _ s
    refine wpAny_bind (wpAny_tryCatch (W.item (j + 1) s _ _ lt st ?_))
    intro v h' tk pv' st' hk
    have hS2 := hk S _ nSw hS
    show wpAny _ A.in1 (tryCatch (holding [v, v] (richCompare .Lt v vb >>= _)) _ >>= _) _ _ _
    refine wpAny_bind (wpAny_tryCatch (wpAny_holding (wpAny_bind (cmp (j + 1) (argBest bt j) v vb _ _ _ pv' pb ?_))))
    refine wpAny_bind (wpAny_holding (wpAny_truthy_bool (wpAny_bind (wpAny_letGo (wpAny_pure ?_)))))
    by_cases hb : bt (j + 1) (argBest bt j) = true
    · have eb : argBest bt (j + 1) = j + 1 := by unfold argBest; rw [if_pos hb]
      simp only [hb, if_true]
      refine wpAny_bind (wpAny_updateSeq hS2 rfl (wpAny_bind (wpAny_letGo ?_)))
      rw [minLoopName]
      refine wpAny_pure ⟨plainId_quiet F.plain_min_loop _, ih (j + 1) _ v _ (by omega) lt (W.frame _ _ _ st' fun b bf o e => ?_) (by rw [eb]; exact pv') (Heap.get?_update_self _ hS2 rfl) fun v2 h2 tk2 p2 k2 => ?_⟩
      · exact (Heap.get?_update_other _ _ (show S ≠ b from fun z => nS (by rw [z]; exact bf))).trans e
      · exact hR v2 h2 tk2 p2 fun b o nb nbS e => k2 b o nb nbS ((Heap.get?_update_other _ _ (Ne.symm nbS)).trans (hk b o nb e))
    · have eb : argBest bt (j + 1) = argBest bt j := by
        show (if bt (j + 1) (argBest bt j) then j + 1 else argBest bt j) = _
        rw [if_neg hb]
      simp only [hb, if_false, Bool.false_eq_true]
      refine wpAny_bind (wpAny_letGo ?_)
      rw [minLoopName]
      exact wpAny_pure ⟨plainId_quiet F.plain_min_loop _, ih (j + 1) _ vb c (by omega) lt st' (by rw [eb]; exact pb) hS2 fun v2 h2 tk2 p2 k2 => hR v2 h2 tk2 p2 fun b o nb nbS e => k2 b o nb nbS (hk b o nb e)⟩
theorem min_first (W : Walks prog w A.in1 I fp wr n Pn Sn) (bt : Nat → Nat → Bool) (cmp : CmpOf prog w A.in1 .Lt Pn bt) (S : Addr) (nS : S ∉ fp) (pos : 0 < n) {s : Shared} {c : Nat} (st : Sn 0 s.heap) (hS : s.heap.get? S = some { cls := .type "list", dict := none, data := .seq #[] c, slots := #[] })
    (hR : ∀ v h' tk, Pn (argBest bt (n - 1)) v → (∀ b o, b ∉ wr → b ≠ S → s.heap.get? b = some o → h'.get? b = some o) →
      R (.ok (.ret v)) { s with heap := h', toks := tk }) :
    codeAny (model prog w) A (.builtin "min.loop" ⟨[.ref I, .none, .ref S], kw⟩) R s := by
  have nSw : S ∉ wr := fun z => nS (W.sub _ z)
  refine codeAny_builtin F.entry_min_loop ?_
  rw [Around.under_plainId F.plain_min_loop _]
  show wpAny _ A.in1 (seqItems? (Value.ref S) >>= _) _ _ s
  refine wpAny_bind (wpAny_seqItems hS rfl ?_)
  show wpAny _ A.in1 (tryCatch (pyNext (Value.ref I)) _ >>= _) _ _ s
  refine wpAny_bind (wpAny_tryCatch (W.item 0 s _ _ pos st ?_))
  intro v h' tk pv' st' hk
  have hS2 := hk S _ nSw hS
  show wpAny _ A.in1 (updateSeq S (fun _ => #[v, v]) >>= _) _ _ _
  refine wpAny_bind (wpAny_updateSeq hS2 rfl ?_)
  rw [minLoopName]
  refine wpAny_pure ⟨plainId_quiet F.plain_min_loop _, min_turns W bt cmp S nS _ 0 _ v _ rfl pos (W.frame _ _ _ st' fun b bf o e => ?_) pv' (Heap.get?_update_self _ hS2 rfl) fun v2 h2 tk2 p2 k2 => ?_⟩
  · exact (Heap.get?_update_other _ _ (show S ≠ b from fun z => nS (by rw [z]; exact bf))).trans e
  · exact hR v2 h2 tk2 p2 fun b o nb nbS e => k2 b o nb nbS ((Heap.get?_update_other _ _ (Ne.symm nbS)).trans (hk b o nb e))
theorem min_none (W : Walks prog w A.in1 I fp wr 0 Pn Sn) (S : Addr) (nS : S ∉ fp) {x : Str} {d : Value} {s : Shared} {c : Nat} (st : Sn 0 s.heap) (hS : s.heap.get? S = some { cls := .type "list", dict := none, data := .seq #[] c, slots := #[] })
    (hR : ∀ h' tk, (∀ b o, b ∉ wr → s.heap.get? b = some o → h'.get? b = some o) → R (.ok (.ret d)) { s with heap := h', toks := tk }) :
    codeAny (model prog w) A (.builtin "min.loop" ⟨[.ref I, .none, .ref S], [(x, d)]⟩) R s := by
  refine codeAny_builtin F.entry_min_loop ?_
  rw [Around.under_plainId F.plain_min_loop _]
  show wpAny _ A.in1 (seqItems? (Value.ref S) >>= _) _ _ s
  refine wpAny_bind (wpAny_seqItems hS rfl ?_)
  show wpAny _ A.in1 (tryCatch (pyNext (Value.ref I)) _ >>= _) _ _ s
  refine wpAny_bind (wpAny_tryCatch (W.done s _ _ st ?_))
  intro h' tk hk
  exact wpAny_bind (wpAny_rule (wpAny_pure (hR h' tk hk)))
end
theorem args_dflt (a v : Value) : argsOk "min" ⟨[a], [(Str.ofString "default", v)]⟩ := by unfold argsOk; kernel_rfl
section
variable {prog : Program} {w : World} {A : Around} {E : Value → Shared → Prop} {s : Shared} {l : Addr} {xs : Array (Int × Tok)}
theorem min_default {Q : Value → Shared → Prop} (hh : A.handled = none) (hl : s.heap.IsList l (intItems xs))
    (h0 : xs.size = 0 → ∀ h' tk, (∀ b o, s.heap.get? b = some o → h'.get? b = some o) → Q .none { s with heap := h', toks := tk })
    (h1 : 0 < xs.size → ∀ v h' tk, (intItems xs)[argBest (fun i j => decide (numAt xs i < numAt xs j)) (xs.size - 1)]? = some v → (∀ b o, s.heap.get? b = some o → h'.get? b = some o) → Q v { s with heap := h', toks := tk }) :
    wpAny (model prog w) A (call (.builtin "min") [.ref l] [(Str.ofString "default", .none)]) Q E s := by
  refine PyProof.Rows.kmk_tree F.kind_min F.plain_min F.entry_min (args_dflt _ _) ?_
  show wpAny _ A.in1 (Builtin.Builtins.bindParams "min" ["key", "default"] 0 ⟨[], [(Str.ofString "default", Value.none)]⟩ >>= _) _ _ s
  refine wpAny_bind (wpAny_of_eq (show Builtin.Builtins.bindParams "min" ["key", "default"] 0 ⟨[], [(Str.ofString "default", Value.none)]⟩ = pure [none, some Value.none] from rfl) ?_)
  refine wpAny_bind (wpAny_pure (wpAny_bind (iter_intList hl ?_)))
  intro s2 es st hfp nlI
  subst es
  refine wpAny_bind (wpAny_newObj_type ?_)
  rw [minLoopName]
  have W := Walks.list (prog := prog) (w := w) (A := A.in1) hh s.heap.objs.size l nlI (intItems xs)
  have nS : (s.heap.push { cls := .type "list_iterator", data := .fields #[.ref l, .int 0 0] }).objs.size ∉ [s.heap.objs.size, l] := fun z => Nat.lt_irrefl _ (hfp _ z)
  have ez : (intItems xs).size = xs.size := by simp [intItems]
  have kept : ∀ h' : Heap, (∀ b o, b ∉ [s.heap.objs.size] → b ≠ (s.heap.push { cls := .type "list_iterator", data := .fields #[.ref l, .int 0 0] }).objs.size →
      ((s.heap.push { cls := .type "list_iterator", data := .fields #[.ref l, .int 0 0] }).push { cls := .type "list", data := .seq #[] 0 }).get? b = some o → h'.get? b = some o) →
      ∀ b o, s.heap.get? b = some o → h'.get? b = some o := fun h' hk => old_kept fun b o nb e => hk b o nb (Nat.ne_of_lt (Heap.lt_size e)) (Heap.get?_push_of_some _ e)
  rcases Nat.eq_zero_or_pos xs.size with hz | hz
  · rw [ez, hz] at W
    exact wpAny_pure ⟨plainId_quiet F.plain_min_loop _, min_none W _ nS (W.frame _ _ _ st fun b _ o e => Heap.get?_push_of_some _ e) (Heap.get?_push_size _ rfl) fun h' tk hk => h0 hz h' tk (kept h' fun b o nb _ e => hk b o nb e)⟩
  · refine wpAny_pure ⟨plainId_quiet F.plain_min_loop _, min_first W _ (CmpOf.ints_lt (numAt xs) fun _ _ => intItems_at) _ nS (by rw [ez]; exact hz) (W.frame _ _ _ st fun b _ o e => Heap.get?_push_of_some _ e) (Heap.get?_push_size _ rfl) fun v h' tk pv' hk => ?_⟩
    rw [ez] at pv'
    exact h1 hz v h' tk pv' (kept h' hk)
end
/-- the least of a list of ints, or nothing -/
def leastV (ns : List Int) : V → Prop := fun v => (ns = [] ∧ v = .non) ∨ ∃ m : Int, m ∈ ns ∧ (∀ y ∈ ns, m ≤ y) ∧ v = .int m
def rMinD (K : PySem.W.Frag) : List V → List V → Hp → VK → Prop := fun vs zs H Q => ∃ (a : Addr) (ns : List Int), vs = [V.ref a] ∧ zs = [V.non] ∧ SqL K H a (ns.map V.int) ∧ ∀ v, leastV ns v → Q v H
theorem cr_minD {X : Cx} (hc : X.calm = true) : CallRK X (.builtin "min") ["default"] (rMinD X.K) := by
  intro pins s σ H vs zs us ws Q I r rz h
  obtain ⟨a, ns, rfl, rfl, hs, q⟩ := h
  obtain ⟨its, rv, hl, _⟩ := I.list hs
  rw [Vals.ref1 r]
  obtain ⟨d, rfl, rd⟩ := vals1 rz
  cases (show d = Value.none from rd)
  have hi := rv.ints
  obtain ⟨xs, e⟩ := hi.allInts.items
  have hn : numsOf (intItems xs).toList = ns := by rw [← e]; exact hi.numsOf
  rw [nums_intItems] at hn
  subst hn
  have hl2 := hl.isList
  rw [e] at hl2
  refine min_default (I.ok.hd hc) hl2 (fun hz h' tk hk => ⟨.non, H, I.kept hk, rfl, q _ (.inl ⟨?_, rfl⟩)⟩) (fun hz v h' tk hv hk => ?_)
  · have : xs.toList.length = 0 := by simpa using hz
    rw [List.length_eq_zero_iff.mp this]
    rfl
  · obtain ⟨t, rfl⟩ := intItems_at hv
    obtain ⟨b1, b2⟩ := argBest_lt (numAt xs) (xs.size - 1)
    refine ⟨.int _, H, I.kept hk, ⟨_, rfl⟩, q _ (.inr ⟨_, ?_, fun y hy => ?_, rfl⟩)⟩
    · rw [numAt_eq]
      exact PySem.getD_mem (by rw [List.length_map, Array.length_toList]; omega)
    · obtain ⟨j, hj, rfl⟩ := mem_getD hy
      rw [List.length_map, Array.length_toList] at hj
      rw [← numAt_eq]
      exact b2 j (by omega)
end RS
/-! ### a list against the empty list; len in a comprehension's block -/
namespace L2
open PySem PySem.Spec PyProof.Rows
section
variable {X : Cx}
/-- a list, held against the empty list -/
def rNilB (K : PySem.W.Frag) (f : Bool → Bool) : R2 := fun x y H Q => ∃ a b xs, x = .ref a ∧ y = .ref b ∧ SqL K H a xs ∧ SqL K H b [] ∧ Q (.bl (f xs.isEmpty)) H
theorem op_eqNil (hu : X.A.units + 64 < cLine) : OpR X (compareOp .Eq) (rNilB X.K id) := by
  intro pins s σ H x y v u Q I rx ry h
  obtain ⟨a, b, xs, rfl, rfl, ha, hb, q⟩ := h
  cases xs with
  | nil => exact op_eqD hu pins s σ H _ _ v u Q I rx ry ⟨.list [], .list [], .lst ha .nil, .lst hb .nil, rfl, rfl, q⟩
  | cons z r =>
    cases rx
    cases ry
    obtain ⟨its, r1, h1, _⟩ := I.list ha
    obtain ⟨its2, r2, h2, _⟩ := I.list hb
    cases r2
    have e1 := r1.length
    refine SeqAt.eq_list_lengthsAt h1.isList h2.isList ?_ (by omega) ⟨.bl _, H, I, rfl, q⟩
    rw [List.size_toArray, ← e1]
    rfl
theorem op_neNil (hu : X.A.units + 64 < cLine) : OpR X (compareOp .NotEq) (rNilB X.K not) := by
  intro pins s σ H x y v u Q I rx ry h
  obtain ⟨a, b, xs, rfl, rfl, ha, hb, q⟩ := h
  cases xs with
  | nil => exact op_neD hu pins s σ H _ _ v u Q I rx ry ⟨.list [], .list [], .lst ha .nil, .lst hb .nil, rfl, rfl, q⟩
  | cons z r =>
    cases rx
    cases ry
    obtain ⟨its, r1, h1, _⟩ := I.list ha
    obtain ⟨its2, r2, h2, _⟩ := I.list hb
    cases r2
    have e1 := r1.length
    refine SeqAt.RcNeAt.lists_lengths h1.isList h2.isList ?_ (by omega) X.prog X.w _ _ ⟨.bl _, H, I, rfl, q⟩
    rw [List.size_toArray, ← e1]
    rfl
def rLenK (K : PySem.W.Frag) : List V → Hp → VK → Prop := fun xs H Q => ∃ p ys, xs = [V.ref p] ∧ (SqL K H p ys ∨ SqT K H p ys) ∧ Q (.int (ys.length : Int)) H
theorem pe_lenK {e : Expr} {te : TE} {p pos : Pos} (K : PySem.W.Frag) (hK : X.K = K) (hg : Gl X "len") (hm : X.mg "len" = none) (ha : PE X e te) (hs : starEach [e] X.env = (false, eval e X.env) :: starEach [] X.env := by rfl) : PE X (.Call (.Name "len" p) [e] [] pos) (tCB (rLenK K) (tCons te tNil)) := by
  subst hK
  exact pe_callB (r := rLenK X.K) call_len_seq hg hm (by decide +kernel) (pa_cons ha pa_nil hs) (he := hs)
end
end L2
namespace RS
open PySem L2
theorem rep_of {os : List Int} {L : Nat} {p q : Pr} (hp : InL L p) (hq : InL L q) (ne : p ≠ q) (e : dif os p = dif os q) : ∃ s, RepS os L s := by
  rcases pLt_tri p q with z | z | z
  · exact ⟨(p, q), hp, hq, z, e⟩
  · exact absurd z ne
  · exact ⟨(q, p), hq, hp, z, e.symm⟩
theorem last_ne {L k : Nat} {p : Pr} (h : InL L p) : p ≠ ((k : Int), (L : Int)) := fun e => by
  obtain ⟨i, j, e2, h1, h2⟩ := h
  rw [e2] at e
  have := congrArg Prod.snd e
  have : (j : Int) = (L : Int) := this
  omega
theorem inl_last {L k : Nat} (h : k < L) : InL (L + 1) ((k : Int), (L : Int)) := ⟨k, L, rfl, h, Nat.lt_succ_self _⟩
theorem dif_last {os : List Int} {k L : Nat} : dif os ((k : Int), (L : Int)) = os.getD L 0 - os.getD k 0 := rfl
/-- nothing repeats at one more attempt -/
theorem no_next {os : List Int} {L : Nat} (ha : Asc os) (hL : L < os.length) (h : ∀ s, ¬ RepS os L s) (hk : ∀ k < L, ∀ p, InL L p → dif os p ≠ os.getD L 0 - os.getD k 0) : ∀ s, ¬ RepS os (L + 1) s := by
  rintro ⟨p, q⟩ ⟨hp, hq, hlt, e⟩
  have hp : InL (L + 1) p := hp
  have hq : InL (L + 1) q := hq
  have e : dif os p = dif os q := e
  have hlt : pLt p q := hlt
  rcases last_or hp with hp1 | ⟨k, hk1, rfl⟩
  · rcases last_or hq with hq1 | ⟨k', hk2, rfl⟩
    · exact h (p, q) ⟨hp1, hq1, hlt, e⟩
    · exact hk k' hk2 p hp1 e
  · rcases last_or hq with hq1 | ⟨k', hk2, rfl⟩
    · exact hk k hk1 q hq1 e.symm
    · have := last_inj ha hL hk1 hk2 e
      subst this
      exact pLt_irr _ hlt
theorem no_zero {os : List Int} : ∀ s, ¬ RepS os 0 s := fun s h => by
  obtain ⟨i, j, _, _, h2⟩ := h.1
  omega
section
variable {P : Program} {w : World} {K : PySem.W.Frag} {mg : Str → Option Value} {base : Heap}
/-! ### how many first attempts have a repetition -/
/-- the number of pairs of the first attempts -/
def tri : Nat → Nat
  | 0 => 0
  | n + 1 => tri n + n
theorem tri_mono (i : Nat) : ∀ k, tri i ≤ tri (i + k)
  | 0 => Nat.le_refl _
  | k + 1 => Nat.le_trans (tri_mono i k) (Nat.le_add_right _ _)
theorem tri_le {i : Nat} (h : i ≤ 67) : tri i ≤ 2211 := by
  have := tri_mono i (67 - i)
  rw [show i + (67 - i) = 67 by omega] at this
  exact Nat.le_trans this (by decide)
def FewV (os : List Int) (v : V) : Prop := (v = .non ∧ ∀ s, ¬ RepS os os.length s) ∨ ∃ L : Nat, L < os.length ∧ v = .int ((L : Int) + 1) ∧ (∀ s, ¬ RepS os L s) ∧ ∃ s, RepS os (L + 1) s
def spFw : Sp := fun vs H Q _ => ∃ (q : Addr) (os : List Int), vs = [.ref q] ∧ H q = some (.lst (os.map V.int)) ∧ Asc os ∧ os.length ≤ 67 ∧ ∀ v H', Same H H' → FewV os v → Q v H'
def fwN : List Str := ["offsets", "seen", "position", "offset", "earlier"]
theorem scFw : FnScope fwN ["offsets"] (defScope s_fewest_repeating) := ⟨rfl, rfl, rfl, by decide +kernel, rfl, by decide +kernel, by decide +kernel⟩
theorem getD_of {os : List Int} {i : Nat} {x : Int} (h : os[i]? = some x) : os.getD i 0 = x := by rw [List.getD_eq_getElem?_getD, h]; rfl
theorem ok_fw {f C : Addr} {fd : FuncData} (F : Fun K "_fewest_repeating" "_fewest_repeating" s_fewest_repeating f fd) (T : Txt K mg C) : FnOk P w K mg base CX0 1 f fd ["offsets"] spFw := by
  refine F.ok scFw (fun vs H Q E h => ?_) (fun cdv A outer s H vs Q E hr h => ?_)
  · obtain ⟨q, os, rfl, _⟩ := h
    rfl
  · obtain ⟨q, os, rfl, hq, ha, hl, k⟩ := h
    refine ⟨_, (pss_cons (ps_set (i := 1) scFw.nd rfl (Or.inl rfl) (pe_callTy0 cr_set0K (by rfl) T.set (by decide +kernel))) (pss_cons (ps_for PassesOwn.never rfl (pi_enum (by rfl) T.enum (pa_cons (pv 0) pa_nil)) (pg_tup rfl (pgs_cons (pg_name (i := 2) scFw.nd rfl (Or.inl rfl)) (pgs_cons (pg_name (i := 3) scFw.nd rfl (Or.inl rfl)) pgs_nil))) (pss_one (ps_for PassesOwn.never rfl (pi_list (pe_slice sl_list (pv 0) po_none (po_some (pv 2)))) (pg_name (i := 4) scFw.nd rfl (Or.inl rfl)) (pss_cons (ps_if (pt_cmpR or_sinK (pe_op op_sub (pv 3) (pv 4)) (pv 1) (by rfl)) (pss_one (ps_ret (pe_op op_add (pv 2) pe_int))) pss_nil) (pss_one (ps_expr (pe_saddK (pv 1) (pa_cons (pe_op op_sub (pv 3) (pv 4)) pa_nil)))))))) (pss_one (ps_ret pe_non)))), ?_⟩
    refine ⟨rfl, fun d hd => ?_⟩
    have S0 := same_new (o := SetK P w d (fun _ => false) 0) hd
    have nqd : q ≠ d := ne_of_none hq hd
    refine ⟨_, rfl, q, _, rfl, SqL.of (S0 _ _ hq), for_it (walk_enum (a := q) (xs := os.map V.int)) (fun i σ H' => ∃ (v2 v3 v4 : Option V) (S : Key → Bool) (n : Nat), σ = [some (.ref q), some (.ref d), v2, v3, v4] ∧ Same H H' ∧ H' d = some (SetK P w d S n) ∧ n ≤ tri i ∧ (∀ x : Int, S (Sum.inl x) = true ↔ ∃ p, InL i p ∧ dif os p = x) ∧ ∀ s, ¬ RepS os i s)
      ⟨none, none, none, fun _ => false, 0, rfl, S0, upd_same, Nat.zero_le _, fun x => ⟨(fun z => nomatch z), (fun ⟨p, ⟨i, j, _, _, h2⟩, _⟩ => by omega)⟩, no_zero⟩ (fun i σ H' _ z => let ⟨_, _, _, _, _, _, S, _⟩ := z; SqL.of (S _ _ hq)) ?_ ?_⟩
    · rintro i x σ H1 H2 hi ⟨v2, v3, v4, S, n, rfl, S1, hd1, hn, hS, hno⟩ ⟨T2, x1, y1, rfl, hT, rfl, hx1, hy1⟩
      obtain rfl := Option.some.inj hx1
      rw [List.length_map] at hi
      obtain ⟨y, hy, rfl⟩ := map_of hy1
      have hyg := getD_of hy
      have sT := same_new (o := .tup [V.int (i : Nat), .int y]) hT
      have S2 := S1.trans sT
      have hd2 := sT _ _ hd1
      refine ⟨T2, _, rfl, SqT.of upd_same, rfl, _, _, rfl, _, _, rfl, rfl, ?_⟩
      generalize (upd H1 T2 (.tup [V.int (i : Nat), .int y])) = H2 at S2 hd2 ⊢
      clear sT hT S1 hd1
      refine ⟨_, rfl, _, rfl, _, rfl, q, _, rfl, SqL.of (S2 _ _ hq), fun l hl0 => ?_⟩
      have e1 : cutV (os.map V.int) none (some ((i : Nat) : Int)) = (os.take i).map V.int := by rw [cut_to, ← List.map_take]
      have sl := same_new (o := .lst (cutV (os.map V.int) none (some ((i : Nat) : Int)))) hl0
      have hl1 : (upd H2 l (.lst (cutV (os.map V.int) none (some ((i : Nat) : Int))))) l = some (.lst ((os.take i).map V.int)) := by rw [upd_same, e1]
      have S3 := S2.trans sl
      have hd3 := sl _ _ hd2
      have nld : l ≠ d := (ne_of_none hd2 hl0).symm
      refine ⟨l, rfl, ⟨_, SqL.of hl1⟩, ?_⟩
      generalize (upd H2 l (.lst (cutV (os.map V.int) none (some ((i : Nat) : Int))))) = H3 at hl1 S3 hd3 ⊢
      clear sl S2 hd2 hl0 e1
      refine for_list (a := l) (xs := (os.take i).map V.int) (fun j σ H' => ∃ (v4 : Option V) (S : Key → Bool) (n : Nat), σ = [some (.ref q), some (.ref d), some (.int (i : Nat)), some (.int y), v4] ∧ Kx d H3 H' ∧ H' d = some (SetK P w d S n) ∧ n ≤ tri i + j ∧ (∀ x : Int, S (Sum.inl x) = true ↔ (∃ p, InL i p ∧ dif os p = x) ∨ ∃ k < j, os.getD i 0 - os.getD k 0 = x) ∧ ∀ k < j, ∀ p, InL i p → dif os p ≠ os.getD i 0 - os.getD k 0)
        ⟨v4, S, n, rfl, Kx.refl d H3, hd3, hn, fun x => (hS x).trans ⟨fun z => .inl z, fun z => z.elim id (fun ⟨k, hk, _⟩ => by omega)⟩, fun k hk => by omega⟩ (fun j σ H' _ z => let ⟨_, _, _, _, kx, _⟩ := z; SqL.of (kx _ _ nld hl1)) ?_ ?_
      · rintro j x σ H4 hx ⟨w4, S4_, n4, rfl, kx4, hd4, hn4, hS4, hk4⟩
        obtain ⟨z, hz, rfl⟩ := map_of hx
        have hj := (List.getElem?_eq_some_iff.mp hz).1
        rw [List.length_take] at hj
        rw [List.getElem?_take_of_lt (by omega)] at hz
        have hzg := getD_of hz
        refine ⟨_, rfl, _, rfl, _, _, rfl, rfl, _, rfl, Sum.inl (y - z), d, S4_, n4, rfl, rfl, hd4, ?_⟩
        by_cases hin : S4_ (Sum.inl (y - z)) = true
        · refine ⟨_, rfl, iteTb hin ?_⟩
          refine ⟨_, rfl, _, _, rfl, rfl, ?_⟩
          have S4 : Same H H4 := fun b u e => kx4 b u (ne_of_none e hd) (S3 _ _ e)
          refine k _ H4 S4 (.inr ⟨i, hi, rfl, hno, ?_⟩)
          rcases (hS4 _).mp hin with ⟨p, h1, h2⟩ | ⟨k', h1, h2⟩
          · exact rep_of (h1.mono (Nat.le_succ _)) (inl_last (show j < i by omega)) (last_ne h1) (by rw [h2, dif_last, hyg, hzg])
          · have := ha k' j h1 (by omega)
            rw [hyg] at h2
            omega
        · refine ⟨_, rfl, iteFb (Bool.eq_false_iff.mpr hin) ?_⟩
          refine ⟨_, rfl, ⟨d, S4_, n4, rfl, hd4⟩, _, rfl, _, rfl, _, _, rfl, rfl, d, Sum.inl (y - z), S4_, n4, rfl, rfl, hd4, (by show n4 + 1 < 4096; have := tri_le (i := i) (by omega); omega), ?_⟩
          rw [if_neg hin]
          refine ⟨_, _, n4 + 1, rfl, kx4.trans Kx.upd, upd_same, by omega, fun x => ?_, fun k' hk' p hp => ?_⟩
          · rw [Bool.or_eq_true, hS4 x, decide_eq_true_iff]
            constructor
            · rintro ((h | ⟨k', h1, h2⟩) | h)
              · exact .inl h
              · exact .inr ⟨k', by omega, h2⟩
              · exact .inr ⟨j, by omega, by rw [hyg, hzg]; exact (Sum.inl.inj h).symm⟩
            · rintro (h | ⟨k', h1, h2⟩)
              · exact .inl (.inl h)
              · by_cases hkj : k' < j
                · exact .inl (.inr ⟨k', hkj, h2⟩)
                · have : k' = j := by omega
                  subst this
                  rw [hyg, hzg] at h2
                  exact .inr (by rw [h2])
          · by_cases hkj : k' < j
            · exact hk4 k' hkj p hp
            · have : k' = j := by omega
              subst this
              intro e
              rw [hyg, hzg] at e
              exact hin ((hS4 _).mpr (.inl ⟨p, hp, e⟩))
      · rintro σ H4 ⟨w4, S4_, n4, rfl, kx4, hd4, hn4, hS4, hk4⟩
        rw [List.length_map, List.length_take, Nat.min_eq_left (by omega)] at hn4 hS4 hk4
        refine ⟨_, _, _, S4_, n4, rfl, fun b u e => kx4 b u (ne_of_none e hd) (S3 _ _ e), hd4, (by show n4 ≤ tri i + i; omega), fun x => (hS4 x).trans ⟨?_, ?_⟩, no_next ha hi hno hk4⟩
        · rintro (⟨p, h1, h2⟩ | ⟨k, h1, h2⟩)
          · exact ⟨p, h1.mono (Nat.le_succ _), h2⟩
          · exact ⟨_, inl_last h1, h2⟩
        · rintro ⟨p, h1, h2⟩
          rcases last_or h1 with h3 | ⟨k, h3, rfl⟩
          · exact .inl ⟨p, h3, h2⟩
          · exact .inr ⟨k, h3, h2⟩
    · rintro σ H1 ⟨v2, v3, v4, S, n, rfl, S1, hd1, hn, hS, hno⟩
      rw [List.length_map] at hno
      exact k .non H1 S1 (.inl ⟨rfl, hno⟩)
end
end RS
namespace RS
open PySem L2
/-! ### the least pair of pairs -/
theorem qLt_trans {r s t : Pr × Pr} (h : qLt r s) (h2 : qLt s t) : qLt r t := by
  unfold qLt at *
  rcases h with h | ⟨e, h⟩
  · rcases h2 with h2 | ⟨e2, h2⟩
    · exact .inl (pLt_trans h h2)
    · exact .inl (e2 ▸ h)
  · rcases h2 with h2 | ⟨e2, h2⟩
    · exact .inl (e ▸ h2)
    · exact .inr ⟨e.trans e2, pLt_trans h h2⟩
theorem qLt_irr (r : Pr × Pr) : ¬ qLt r r := fun h => h.elim (pLt_irr _) (fun z => pLt_irr _ z.2)
def quadD (s : Pr × Pr) : PyData := .tuple [pairD s.1, pairD s.2]
theorem pair_eqv (p q : Pr) : PyData.eqv (pairD p) (pairD q) = decide (p = q) := by
  obtain ⟨a, b⟩ := p
  obtain ⟨c, d⟩ := q
  unfold pairD
  simp only [PyData.eqv, PyData.eqvAll]
  by_cases h1 : a = c <;> by_cases h2 : b = d <;> simp [h1, h2]
theorem pair_lt (p q : Pr) : PySem.W.dataLt (pairD p) (pairD q) = decide (p.1 < q.1 ∨ (p.1 = q.1 ∧ p.2 < q.2)) := by unfold pairD; rw [PySem.W.dataLt_ii]
theorem quad_lt (r s : Pr × Pr) : PySem.W.dataLt (quadD r) (quadD s) = true ↔ qLt r s := by
  unfold quadD qLt pLt
  rw [PySem.W.dataLt_pair (by rfl) (by rfl), pair_eqv, pair_eqv, pair_lt, pair_lt]
  by_cases h1 : r.1 = s.1
  · rw [decide_eq_true h1, if_pos rfl]
    by_cases h2 : r.2 = s.2
    · rw [decide_eq_true h2, if_pos rfl, h1, h2]
      constructor
      · intro z
        cases z
      · rintro (z | ⟨_, z⟩) <;> omega
    · rw [decide_eq_false h2, if_neg (by decide), decide_eq_true_iff, h1]
      constructor
      · exact fun z => .inr ⟨rfl, z⟩
      · rintro (z | ⟨_, z⟩)
        · omega
        · exact z
  · rw [decide_eq_false h1, if_neg (by decide), decide_eq_true_iff]
    exact ⟨fun z => .inl z, fun z => z.elim id fun y => absurd y.1 h1⟩
theorem quads_alike (qs : List (Pr × Pr)) : AlikeD (qs.map quadD) := by
  refine ⟨⟨fun x hx y hy => ?_, fun x hx => ?_⟩, ?_, fun e he => ?_⟩
  · obtain ⟨p, _, rfl⟩ := List.mem_map.mp hx
    obtain ⟨q, _, rfl⟩ := List.mem_map.mp hy
    rfl
  · obtain ⟨p, _, rfl⟩ := List.mem_map.mp hx
    exact fun z => nomatch z
  · have : PyData.depthAll (qs.map quadD) ≤ 3 := by
      induction qs with
      | nil => decide
      | cons p r ih =>
        show max _ (PyData.depthAll (r.map quadD)) ≤ 3
        have : (quadD p).depth ≤ 3 := by first | exact Nat.le_of_eq (rfl : (quadD p).depth = 3) | exact Nat.le_of_lt (Nat.lt_succ_of_le (Nat.le_of_eq (rfl : (quadD p).depth = 2)))
        omega
    omega
  · obtain ⟨p, _, rfl⟩ := List.mem_map.mp he
    rfl
theorem minD_quads : ∀ (p : Pr × Pr) (ps : List (Pr × Pr)), ∃ q ∈ p :: ps, PySem.W.minD (quadD p) (ps.map quadD) = quadD q ∧ ∀ x ∈ p :: ps, ¬ qLt x q := by
  intro p ps
  induction ps generalizing p with
  | nil => exact ⟨p, List.mem_cons_self .., rfl, fun x hx => by rw [List.mem_singleton.mp hx]; exact qLt_irr _⟩
  | cons y r ih =>
    by_cases h : qLt y p
    · obtain ⟨q, h1, h2, h3⟩ := ih y
      refine ⟨q, List.mem_cons_of_mem _ h1, ?_, fun x hx => ?_⟩
      · rw [← h2]
        unfold PySem.W.minD
        rw [List.map_cons, List.foldl_cons, if_pos ((quad_lt y p).mpr h)]
      · rcases List.mem_cons.mp hx with rfl | hx
        · exact fun z => h3 y (List.mem_cons_self ..) (qLt_trans h z)
        · exact h3 x hx
    · obtain ⟨q, h1, h2, h3⟩ := ih p
      refine ⟨q, ?_, ?_, fun x hx => ?_⟩
      · rcases List.mem_cons.mp h1 with rfl | h1
        · exact List.mem_cons_self ..
        · exact List.mem_cons_of_mem _ (List.mem_cons_of_mem _ h1)
      · rw [← h2]
        unfold PySem.W.minD
        rw [List.map_cons, List.foldl_cons, if_neg (fun z => h ((quad_lt y p).mp z))]
      · rcases List.mem_cons.mp hx with rfl | hx
        · exact h3 x (List.mem_cons_self ..)
        · rcases List.mem_cons.mp hx with rfl | hx
          · intro z
            rcases qLt_tri p x with a | a | a
            · exact h3 p (List.mem_cons_self ..) (qLt_trans a z)
            · exact h3 p (List.mem_cons_self ..) (a ▸ z)
            · exact h a
          · exact h3 x (List.mem_cons_of_mem _ hx)
/-- tuples of two tuples of two numbers -/
def QuadAt (H : Hp) (r : Addr) (s : Pr × Pr) : Prop := ∃ t1 t2 : Addr, H r = some (.tup [.ref t1, .ref t2]) ∧ H t1 = some (.tup [.int s.1.1, .int s.1.2]) ∧ H t2 = some (.tup [.int s.2.1, .int s.2.2])
def QuadsI (H : Hp) (rs : List Addr) (qs : List (Pr × Pr)) : Prop := rs.length = qs.length ∧ ∀ (j : Nat) (s : Pr × Pr), qs[j]? = some s → ∃ r, rs[j]? = some r ∧ QuadAt H r s
theorem QuadAt.kx {H H' : Hp} {r : Addr} {s : Pr × Pr} (q : QuadAt H r s) (h : ∀ (r : Addr) (xs : List V), H r = some (.tup xs) → H' r = some (.tup xs)) : QuadAt H' r s :=
  let ⟨t1, t2, a, b, c⟩ := q; ⟨t1, t2, h _ _ a, h _ _ b, h _ _ c⟩
theorem QuadAt.dp {K : PySem.W.Frag} {H : Hp} {r : Addr} {s : Pr × Pr} (q : QuadAt H r s) : Dp K H (.ref r) (quadD s) := by
  obtain ⟨t1, t2, a, b, c⟩ := q
  exact .tup (SqT.of a) (.cons (.tup (SqT.of b) (.cons (.int _) (.cons (.int _) .nil))) (.cons (.tup (SqT.of c) (.cons (.int _) (.cons (.int _) .nil))) .nil))
theorem QuadsI.kx {H H' : Hp} {rs : List Addr} {qs : List (Pr × Pr)} (t : QuadsI H rs qs) (h : ∀ (r : Addr) (xs : List V), H r = some (.tup xs) → H' r = some (.tup xs)) : QuadsI H' rs qs :=
  ⟨t.1, fun j p e => let ⟨r, a, b⟩ := t.2 j p e; ⟨r, a, b.kx h⟩⟩
theorem QuadsI.nil {H : Hp} : QuadsI H [] [] := ⟨rfl, fun _ _ e => nomatch e⟩
theorem QuadsI.snoc {H : Hp} {rs : List Addr} {qs : List (Pr × Pr)} {r : Addr} {s : Pr × Pr} (t : QuadsI H rs qs) (h : QuadAt H r s) : QuadsI H (rs ++ [r]) (qs ++ [s]) := by
  refine ⟨by rw [List.length_append, List.length_append, t.1]; rfl, fun j p e => ?_⟩
  by_cases hj : j < qs.length
  · rw [List.getElem?_append_left hj] at e
    obtain ⟨r', e1, e2⟩ := t.2 j p e
    exact ⟨r', by rw [List.getElem?_append_left (by rw [t.1]; exact hj)]; exact e1, e2⟩
  · have hl := (List.getElem?_eq_some_iff.mp e).1
    rw [List.length_append, List.length_singleton] at hl
    have ej : j = qs.length := by omega
    subst ej
    rw [List.getElem?_append_right (Nat.le_refl _), Nat.sub_self] at e
    cases e
    exact ⟨r, by rw [← t.1, List.getElem?_append_right (Nat.le_refl _), Nat.sub_self]; rfl, h⟩
theorem quads_dp {K : PySem.W.Frag} {H : Hp} : ∀ {rs : List Addr} {qs : List (Pr × Pr)}, QuadsI H rs qs → DpAll K H (rs.map V.ref) (qs.map quadD)
  | [], [], _ => .nil
  | [], _ :: _, t => nomatch t.1
  | _ :: _, [], t => nomatch t.1
  | r :: rs, p :: qs, t => by
    obtain ⟨r', e1, e2⟩ := t.2 0 p rfl
    cases (Option.some.inj e1 : r = r')
    exact .cons e2.dp (quads_dp ⟨Nat.succ.inj t.1, fun j q e => t.2 (j + 1) q e⟩)
theorem quadD_inj {r s : Pr × Pr} (h : quadD r = quadD s) : r = s := by
  obtain ⟨⟨a, b⟩, c, d⟩ := r
  obtain ⟨⟨a', b'⟩, c', d'⟩ := s
  unfold quadD pairD at h
  simp only [PyData.tuple.injEq, List.cons.injEq, PyData.int.injEq, and_true] at h
  obtain ⟨⟨h1, h2⟩, h3, h4⟩ := h
  rw [h1, h2, h3, h4]
/-- the first offsets alone -/
theorem dif_take {os : List Int} {L : Nat} {p : Pr} (h : InL L p) : dif (os.take L) p = dif os p := by
  obtain ⟨i, j, rfl, h1, h2⟩ := h
  unfold dif
  simp only [Int.toNat_natCast]
  rw [List.getD_eq_getElem?_getD, List.getD_eq_getElem?_getD, List.getD_eq_getElem?_getD, List.getD_eq_getElem?_getD, List.getElem?_take_of_lt h2, List.getElem?_take_of_lt (by omega)]
end RS
namespace RS
open PySem L2
theorem TellN.le67 {gs : List Int} {tl : Tl} {n : Nat} (okG : GapsOk gs) (okT : TlOk gs.length tl) (B : TellN gs n tl) : n ≤ 67 := by
  have h := okG.1
  cases tl with
  | fin => have : n = gs.length + 1 := B; omega
  | rep m => have : n = gs.length + 2 := B; omega
  | times b => have := Bey.le67 okG okT B; omega
/-- the first two of a group -/
theorem grp_two {os : List Int} {PS : List Pr} {n : Nat} (h : UpTo n n 0 PS) {x y : Pr} (hx : InL n x) (hy : InL n y) (hlt : pLt x y) (e : dif os x = dif os y) : ∃ p q t, grp os PS (dif os x) = p :: q :: t ∧ ¬ qLt (x, y) (p, q) := by
  have hin : ∀ z : Pr, InL n z → z ∈ PS := fun z hz => (h.mem z).mpr ⟨hz, by obtain ⟨i, j, rfl, h1, h2⟩ := hz; exact .inl (by show (i : Int) < (n : Int); omega)⟩
  have hpw : (grp os PS (dif os x)).Pairwise pLt := h.pw.sublist List.filter_sublist
  have hx2 : x ∈ grp os PS (dif os x) := List.mem_filter.mpr ⟨hin x hx, decide_eq_true rfl⟩
  have hy2 : y ∈ grp os PS (dif os x) := List.mem_filter.mpr ⟨hin y hy, decide_eq_true e.symm⟩
  generalize grp os PS (dif os x) = g at hpw hx2 hy2
  match g, hpw, hx2, hy2 with
  | [], _, hx2, _ => cases hx2
  | [p], _, hx2, hy2 =>
    rw [List.mem_singleton.mp hx2, List.mem_singleton.mp hy2] at hlt
    exact absurd hlt (pLt_irr _)
  | p :: q :: t, hpw, hx2, hy2 =>
    refine ⟨p, q, t, rfl, fun z => ?_⟩
    obtain ⟨h1, h2⟩ := List.pairwise_cons.mp hpw
    have hpx : p = x ∨ pLt p x := by
      rcases List.mem_cons.mp hx2 with e | e
      · exact .inl e.symm
      · exact .inr (h1 x e)
    rcases z with z | ⟨e2, z⟩
    · have z : pLt x p := z
      rcases hpx with e | e
      · rw [e] at z
        exact pLt_irr _ z
      · exact pLt_asym e z
    · have e2 : x = p := e2
      have z : pLt y q := z
      subst e2
      rcases List.mem_cons.mp hy2 with e | e
      · rw [e] at hlt
        exact pLt_irr _ hlt
      · rcases List.mem_cons.mp e with e | e
        · rw [e] at z
          exact pLt_irr _ z
        · exact pLt_asym ((List.pairwise_cons.mp h2).1 y e) z
theorem grp_in {os : List Int} {PS : List Pr} {n : Nat} (h : UpTo n n 0 PS) {r : Int} {p q : Pr} {t : List Pr} (e : grp os PS r = p :: q :: t) : RepS os n (p, q) := by
  have hp : p ∈ grp os PS r := by rw [e]; exact List.mem_cons_self ..
  have hq : q ∈ grp os PS r := by rw [e]; exact List.mem_cons_of_mem _ (List.mem_cons_self ..)
  have hpw : (grp os PS r).Pairwise pLt := h.pw.sublist List.filter_sublist
  rw [e] at hpw
  obtain ⟨p1, p2⟩ := List.mem_filter.mp hp
  obtain ⟨q1, q2⟩ := List.mem_filter.mp hq
  exact ⟨((h.mem p).mp p1).1, ((h.mem q).mp q1).1, (List.pairwise_cons.mp hpw).1 q (List.mem_cons_self ..), (of_decide_eq_true p2).trans (of_decide_eq_true q2).symm⟩
theorem rep_take {os : List Int} {L : Nat} {s : Pr × Pr} : RepS (os.take L) L s ↔ RepS os L s := by
  constructor
  · rintro ⟨a, b, c, d⟩
    exact ⟨a, b, c, by rw [dif_take a, dif_take b] at d; exact d⟩
  · rintro ⟨a, b, c, d⟩
    exact ⟨a, b, c, by rw [dif_take a, dif_take b]; exact d⟩
section
variable {P : Program} {w : World} {K : PySem.W.Frag} {mg : Str → Option Value} {base : Heap}
/-! ### first_repetition, is_spread -/
def QuadV (H : Hp) : Option (Pr × Pr) → V → Prop
  | none, v => v = .non
  | some s, v => ∃ r, v = .ref r ∧ QuadAt H r s
def spFp2 (C : Addr) : Sp := fun vs H Q _ => ∃ (p g t o : Addr) (gs : List Int) (tl : Tl), vs = [.ref p] ∧ RuleAt C H p g t o gs tl ∧ ∀ n r v H', TellN gs n tl → LeastR (offL gs tl n) r → Same H H' → QuadV H' r v → Q v H'
def fpN : List Str := ["rule", "offsets", "many", "groups", "pairs"]
theorem scFp : FnScope fpN ["rule"] (defScope s_first_repetition) := ⟨rfl, rfl, rfl, by decide +kernel, rfl, by decide +kernel, by decide +kernel⟩
theorem ok_fp {f C fT fF fG : Addr} {fd fdT fdF fdG : FuncData} (F : Fun K "first_repetition" "first_repetition" s_first_repetition f fd) (T : Txt K mg C)
    (GT : FnOk P w K mg base CX0 5 fT fdT ["rule"] (spTl2 C)) (bT : Binds K fdT ["rule"] []) (mT : mg "_telling_offsets" = some (.ref fT)) (kT : PySem.W.keepIn K (.ref fT) = true)
    (GF : FnOk P w K mg base CX0 1 fF fdF ["offsets"] spFw) (bF : Binds K fdF ["offsets"] []) (mF : mg "_fewest_repeating" = some (.ref fF)) (kF : PySem.W.keepIn K (.ref fF) = true)
    (GG : FnOk P w K mg base CX0 1 fG fdG ["offsets"] spPd) (bG : Binds K fdG ["offsets"] []) (mG : mg "_pairs_by_difference" = some (.ref fG)) (kG : PySem.W.keepIn K (.ref fG) = true) :
    FnOk P w K mg base CX0 6 f fd ["rule"] (spFp2 C) := by
  refine F.ok scFp (fun vs H Q E h => ?_) (fun cdv A outer s H vs Q E hr h => ?_)
  · obtain ⟨p, g, t, o, gs, tl, rfl, _⟩ := h
    rfl
  · obtain ⟨p, g, t, o, gs, tl, rfl, R, k⟩ := h
    have hr1 := hr.mono (show 1 ≤ 5 by decide)
    refine ⟨_, (pss_cons (ps_set (i := 1) scFp.nd rfl (Or.inl rfl) (pe_call GT hr rfl mT kT bT .nil pass0 (pa_cons (pv 0) pa_nil))) (pss_cons (ps_set (i := 2) scFp.nd rfl (Or.inl rfl) (pe_call GF hr1 rfl mF kF bF .nil pass0 (pa_cons (pv 1) pa_nil))) (pss_cons (ps_if (pt_cmpR op_isN (pv 2) pe_non (nomark _)) (pss_one (ps_ret pe_non)) pss_nil) (pss_cons (ps_set (i := 3) scFp.nd rfl (Or.inl rfl) (pe_call GG hr1 rfl mG kG bG .nil pass0 (pa_cons (pe_slice sl_list (pv 1) po_none (po_some (pv 2))) pa_nil))) (pss_one (ps_ret (pe_callB (cr_minL rfl hr.units) (by rfl) T.min (by decide +kernel) (pa_cons (pe_lock (pe_lc (own := [("pairs", 4)]) (g := gName 4) rfl scFp.nd (pi_values (pv 3)) (blkOk_by (own := [("pairs", 4)]) (N := fpN) (sc := defScope s_first_repetition) (by decide +kernel)) (fun _ _ _ _ _ => (pg_name (i := 4) scFp.nd rfl (Or.inl rfl))) (fun _ _ _ _ _ => pts_one (pt_cmpR op_gt (pe_lenK K (by rfl) (by rfl) T.len (pv 4)) pe_int (nomark _))) (fun _ _ _ _ _ => (pe_tup (pa_cons (pe_ixK K (by rfl) (pv 4) pe_int) (pa_cons (pe_ixK K (by rfl) (pv 4) pe_int) pa_nil)))))) pa_nil)))))))), ?_⟩
    have okG := R.okG
    have okT := R.okT
    refine ⟨_, rfl, p, g, t, o, gs, tl, rfl, R, fun q n H1 hq S1 hT hq1 => ?_⟩
    have hasc : Asc (offL gs tl n) := asc_any okG okT (fun e => by subst e; exact Nat.le_of_eq hT)
    have hlen : (offL gs tl n).length ≤ 67 := by
      rw [offL_len]
      exact TellN.le67 okG okT hT
    have k := fun r v H' => k n r v H' hT
    generalize offL gs tl n = os at hq1 hasc hlen k
    refine ⟨_, rfl, q, os, rfl, hq1, hasc, hlen, fun v H2 S2 hv => ?_⟩
    have S02 := S1.trans S2
    have hq2 := S2 _ _ hq1
    rcases hv with ⟨rfl, hno⟩ | ⟨L, hL, rfl, hno, hex⟩
    · refine ⟨_, rfl, rfl, _, rfl, iteTb rfl ?_⟩
      exact k none .non H2 hno S02 rfl
    refine ⟨_, rfl, rfl, _, rfl, iteFb rfl ?_⟩
    -- the groups
    refine ⟨_, rfl, _, rfl, _, rfl, q, _, rfl, SqL.of hq2, fun l hl => ?_⟩
    have e1 : cutV (os.map V.int) none (some ((L : Int) + 1)) = (os.take (L + 1)).map V.int := by
      rw [show (L : Int) + 1 = ((L + 1 : Nat) : Int) by omega, cut_to, ← List.map_take]
    have Sl := same_new (o := .lst (cutV (os.map V.int) none (some ((L : Int) + 1)))) hl
    have hl3 : (upd H2 l (.lst (cutV (os.map V.int) none (some ((L : Int) + 1))))) l = some (.lst ((os.take (L + 1)).map V.int)) := by rw [upd_same, e1]
    have S03 := S02.trans Sl
    generalize (upd H2 l (.lst (cutV (os.map V.int) none (some ((L : Int) + 1))))) = H3 at hl3 S03
    have hol : (os.take (L + 1)).length = L + 1 := by rw [List.length_take]; omega
    refine ⟨l, os.take (L + 1), rfl, hl3, by rw [hol]; omega, fun d ks as ad PS H4 hd G => ?_⟩
    rw [hol] at G
    have S04 := S03.trans G.S
    have hdH : H d = none := S03.free hd
    clear Sl hl3 e1 hq2 S02
    have hPS : PS.length ≤ 5000 := by have := G.lp; omega
    have hks : ks.length ≤ 5000 := Nat.le_trans G.lk hPS
    -- the two first of each group
    refine ⟨d, .dK (kvsOf ks as), G.D.hd, trivial, fun od => ?_⟩
    have hdL : (upd H4 d (.frz od (.dK (kvsOf ks as)))) d = some (.frz od (.dK (kvsOf ks as))) := upd_same
    have kpL : ∀ b u, b ≠ d → H4 b = some u → (upd H4 d (.frz od (.dK (kvsOf ks as)))) b = some u := fun b u nb e => by rw [upd_ne nb]; exact e
    generalize upd H4 d (.frz od (.dK (kvsOf ks as))) = HL at hdL kpL
    refine ⟨_, rfl, d, od, kvsOf ks as, rfl, hdL, fun D hD => lc_it (walk_values (d := d) (o := od) (kvs := kvsOf ks as)) (fun i H' => Same HL H' ∧ ∃ rs qs, H' D = some (.lst (rs.map V.ref)) ∧ QuadsI H' rs qs ∧ rs.length ≤ i ∧ (∀ s ∈ qs, RepS os (L + 1) s) ∧ ∀ j < i, ∀ r p q t, ks[j]? = some r → grp (os.take (L + 1)) PS r = p :: q :: t → (p, q) ∈ qs)
      ⟨same_new hD, [], [], upd_same, QuadsI.nil, Nat.le_refl _, (fun s h => nomatch h), fun j h => absurd h (by omega)⟩ (fun i H' _ z => z.1 _ _ hdL) (fun i x H7 H5 hi z hy => ?_) (fun H5 z => ?_)⟩
    · obtain ⟨S5, rs, qs, hD5, tp5, hrl, hin, hall⟩ := z
      obtain ⟨rfl, kk, hkk⟩ := hy
      have hik : i < ks.length := by rw [← kvsOf_len G.D.len]; exact hi
      have hri : ks[i]? = some ks[i] := List.getElem?_eq_getElem hik
      have hai : as[i]? = some (as[i]'(by rw [G.D.len]; exact hik)) := List.getElem?_eq_getElem _
      generalize ks[i] = r at hri
      generalize as[i]'(by rw [G.D.len]; exact hik) = a at hai
      have ekk : (kvsOf ks as)[i]? = some ((Sum.inl r : Key), V.ref a) := by
        unfold kvsOf
        rw [List.getElem?_zipWith, hri, hai]
      rw [ekk] at hkk
      cases hkk
      have hla := G.D.ls i r a hri hai
      have nad : a ≠ d := fun z => G.D.nd (z ▸ List.mem_of_getElem? hai)
      have hla5 := S5 _ _ (kpL _ _ nad hla)
      have htp := G.tp r
      refine ⟨rfl, _, rfl, a, _, rfl, .inl (SqL.of hla5), _, _, rfl, rfl, _, rfl, ?_⟩
      have hlr := htp.1
      have nk : ∀ (b : Addr) (xs : List V), H4 b = some (.tup xs) → H5 b = some (.tup xs) := fun b xs e => S5 _ _ (kpL _ _ (ne_of e G.D.hd (by intro z; cases z)) e)
      by_cases h2 : 2 ≤ (ad r).length
      · refine iteTb (decide_eq_true (by rw [List.length_map]; omega)) ?_
        obtain ⟨p1, q1, t1, hg⟩ : ∃ p1 q1 t1, grp (os.take (L + 1)) PS r = p1 :: q1 :: t1 := by
          rw [hlr] at h2
          match grp (os.take (L + 1)) PS r, h2 with
          | [], h2 => exact absurd h2 (by decide)
          | [_], h2 => exact absurd (Nat.le_of_succ_le_succ h2) (Nat.not_succ_le_zero 0)
          | p1 :: q1 :: t1, _ => exact ⟨p1, q1, t1, rfl⟩
        obtain ⟨x1, ex1, hx1⟩ := htp.2 0 p1 (by rw [hg]; rfl)
        obtain ⟨x2, ex2, hx2⟩ := htp.2 1 q1 (by rw [hg]; rfl)
        refine ⟨_, rfl, a, _, _, .ref x1, rfl, rfl, SqL.of hla5, atI_nat (j := 0) (by rw [List.getElem?_map, ex1]; rfl), _, rfl, a, _, _, .ref x2, rfl, rfl, SqL.of hla5, atI_nat (j := 1) (by rw [List.getElem?_map, ex2]; rfl), (by show 2 ≤ sizeLine; decide), fun u hu => ?_⟩
        have Su := same_new (o := .tup [.ref x1, .ref x2]) hu
        have hq6 : QuadAt (upd H5 u (.tup [.ref x1, .ref x2])) u (p1, q1) := ⟨x1, x2, upd_same, Su _ _ (nk _ _ hx1), Su _ _ (nk _ _ hx2)⟩
        have hD6 := Su _ _ hD5
        have S6 := S5.trans Su
        have tp6 := tp5.kx fun y xs e => Su _ _ e
        generalize upd H5 u (.tup [.ref x1, .ref x2]) = H6 at hq6 hD6 S6 tp6
        have nt : ∀ (y : Addr) (xs : List V), H6 y = some (.tup xs) → upd H6 D (.lst (rs.map V.ref ++ [V.ref u])) y = some (.tup xs) := fun y xs e => by
          rw [upd_ne (ne_of e hD6 (by intro z; cases z))]
          exact e
        refine ⟨_, hD6, by rw [List.length_map]; exact small_line (by omega), same_app hD S6, rs ++ [u], qs ++ [(p1, q1)], by rw [upd_same, List.map_append]; rfl, (tp6.kx nt).snoc (hq6.kx nt), by rw [List.length_append, List.length_singleton]; omega, fun s hs => ?_, fun j hj r' p' q' t' e1 e2 => ?_⟩
        · rcases List.mem_append.mp hs with h | h
          · exact hin s h
          · rw [List.mem_singleton.mp h]
            exact rep_take.mp (grp_in G.up hg)
        · by_cases hji : j < i
          · exact List.mem_append_left _ (hall j hji r' p' q' t' e1 e2)
          · have : j = i := by omega
            subst this
            rw [hri] at e1
            cases e1
            rw [hg] at e2
            cases e2
            exact List.mem_append_right _ (List.mem_singleton.mpr rfl)
      · refine iteFb (decide_eq_false (by rw [List.length_map]; omega)) ⟨S5, rs, qs, hD5, tp5, by omega, hin, fun j hj r' p' q' t' e1 e2 => ?_⟩
        by_cases hji : j < i
        · exact hall j hji r' p' q' t' e1 e2
        · have : j = i := by omega
          subst this
          rw [hri] at e1
          cases e1
          rw [hlr, e2] at h2
          exact absurd (Nat.le_add_left 2 _) h2
    · obtain ⟨S5, rs, qs, hD5, tp5, hrl, hin, hall⟩ := z
      rw [kvsOf_len G.D.len] at hrl hall
      refine ⟨S5 _ _ hdL, ?_⟩
      have nDd : D ≠ d := fun z => by rw [z, hdL] at hD; cases hD
      have S6 : Same H (upd H5 d (.dK (kvsOf ks as))) := fun b u e => by
        have nb : b ≠ d := ne_of_none e hdH
        rw [upd_ne nb]
        exact S5 _ _ (kpL _ _ nb (S04 _ _ e))
      have hD6 : (upd H5 d (.dK (kvsOf ks as))) D = some (.lst (rs.map V.ref)) := by rw [upd_ne nDd]; exact hD5
      have tp6 : QuadsI (upd H5 d (.dK (kvsOf ks as))) rs qs := tp5.kx fun y xs e => by
        rw [upd_ne (ne_of e (S5 _ _ hdL) (by intro z; cases z))]
        exact e
      generalize upd H5 d (.dK (kvsOf ks as)) = H6 at S6 hD6 tp6
      -- each repetition is not less than one of these
      have hback : ∀ s, RepS os (L + 1) s → ∃ m ∈ qs, ¬ qLt s m := fun s hs => by
        obtain ⟨h1, h2, h3, h4⟩ := rep_take.mpr hs
        obtain ⟨p1, q1, t1, hg, hle⟩ := grp_two G.up h1 h2 h3 h4
        have hrk : dif (os.take (L + 1)) s.1 ∈ ks := Classical.byContradiction fun hn => by
          have e1 := List.map_eq_nil_iff.mp (G.D.out _ hn)
          have e2 := (G.tp (dif (os.take (L + 1)) s.1)).1
          rw [e1, hg] at e2
          cases e2
        obtain ⟨j, hj⟩ := List.mem_iff_getElem?.mp hrk
        exact ⟨(p1, q1), hall j (List.getElem?_eq_some_iff.mp hj).1 _ p1 q1 t1 hj hg, hle⟩
      cases qs with
      | nil =>
        obtain ⟨s, hs⟩ := hex
        obtain ⟨m, hm, _⟩ := hback s hs
        cases hm
      | cons s0 r0 =>
        refine ⟨D, _, quadD s0, r0.map quadD, rfl, SqL.of hD6, quads_dp tp6, quads_alike (s0 :: r0), fun i x hx hd9 => ?_⟩
        obtain ⟨m, hm, hmin, hleast⟩ := minD_quads s0 r0
        rw [List.getElem?_map] at hx
        cases e : rs[i]? with
        | none => rw [e] at hx; cases hx
        | some u =>
          rw [e] at hx
          cases hx
          have hi := (List.getElem?_eq_some_iff.mp e).1
          have hq9 : (s0 :: r0)[i]? = some ((s0 :: r0)[i]'(by rw [← tp6.1]; exact hi)) := List.getElem?_eq_getElem _
          generalize (s0 :: r0)[i]'(by rw [← tp6.1]; exact hi) = s9 at hq9
          obtain ⟨u', eu, hu⟩ := tp6.2 i s9 hq9
          rw [e] at eu
          cases eu
          have h1 : ((s0 :: r0).map quadD)[i]? = some (quadD s9) := by rw [List.getElem?_map, hq9]; rfl
          have h2 : ((s0 :: r0).map quadD)[i]? = some (PySem.W.minD (quadD s0) (r0.map quadD)) := hd9
          rw [hmin, h1] at h2
          have e9 := quadD_inj (Option.some.inj h2)
          subst e9
          refine k (some s9) (.ref u) H6 ⟨L, hL, hno, hin s9 hm, fun s hs z => ?_⟩ S6 ⟨u, rfl, hu⟩
          obtain ⟨m2, hm2, hn2⟩ := hback s hs
          rcases qLt_tri s m2 with a | a | a
          · exact hn2 a
          · exact hleast m2 hm2 (a ▸ z)
          · exact hleast m2 hm2 (qLt_trans a z)
end
end RS
namespace RS
open PySem L2
section
variable {P : Program} {w : World} {K : PySem.W.Frag} {mg : Str → Option Value} {base : Heap}
/-! ### is_spread, of any tail -/
def spSd2 (C : Addr) : Sp := fun vs H Q _ => ∃ (p g t o : Addr) (gs : List Int) (tl : Tl), vs = [.ref p] ∧ RuleAt C H p g t o gs tl ∧ ∀ n r H', TellN gs n tl → LeastR (offL gs tl n) r → Same H H' → Q (.bl r.isNone) H'
theorem scSd : FnScope ["rule"] ["rule"] (defScope s_is_spread) := ⟨rfl, rfl, rfl, by decide +kernel, rfl, by decide +kernel, by decide +kernel⟩
theorem ok_sd2 {f C fF : Addr} {fd fdF : FuncData} (F : Fun K "is_spread" "is_spread" s_is_spread f fd) (T : Txt K mg C)
    (GF : FnOk P w K mg base CX0 6 fF fdF ["rule"] (spFp2 C)) (bF : Binds K fdF ["rule"] []) (mF : mg "first_repetition" = some (.ref fF)) (kF : PySem.W.keepIn K (.ref fF) = true) :
    FnOk P w K mg base CX0 7 f fd ["rule"] (spSd2 C) := by
  refine F.ok scSd (fun vs H Q E h => ?_) (fun cdv A outer s H vs Q E hr h => ?_)
  · obtain ⟨p, g, t, o, gs, tl, rfl, _⟩ := h
    rfl
  · obtain ⟨p, g, t, o, gs, tl, rfl, R, k⟩ := h
    refine ⟨_, (pss_one (ps_ret (pe_cmpR op_isN (pe_call GF hr rfl mF kF bF .nil pass0 (pa_cons (pv 0) pa_nil)) pe_non (nomark _)))), ?_⟩
    refine ⟨_, rfl, p, g, t, o, gs, tl, rfl, R, fun n r v H1 hT hL S1 hv => ?_⟩
    cases r with
    | none =>
      cases (show v = .non from hv)
      exact ⟨rfl, k n none H1 hT hL S1⟩
    | some s =>
      obtain ⟨x, rfl, _⟩ := hv
      exact ⟨rfl, k n (some s) H1 hT hL S1⟩
end
end RS
namespace RS
open PySem L2
/-! ### the attempts in which two clients share a slot, without gaps that repeat: the mathematics -/
/-- for each of the first i attempts the first attempt that lies a distance later -/
structure RchF (os : List Int) (d : Int) (i : Nat) (fs : List (Nat × Nat)) : Prop where
  inn : ∀ f ∈ fs, f.2 < i ∧ f.1 < os.length ∧ d + os.getD f.2 0 ≤ os.getD f.1 0 ∧ ∀ k < f.1, os.getD k 0 < d + os.getD f.2 0
  srt : fs.Pairwise (fun f g => f.2 < g.2)
  all : ∀ l < i, ∀ e < os.length, d + os.getD l 0 ≤ os.getD e 0 → ∃ e', (e', l) ∈ fs
def toPr (f : Nat × Nat) : Pr := ((f.1 : Int), (f.2 : Int))
/-- those that lie just the distance later -/
def selR (os : List Int) (d : Int) (fs : List (Nat × Nat)) : List Pr := (fs.filter fun f => decide (os.getD f.1 0 - os.getD f.2 0 = d)).map toPr
theorem selR_snoc (os : List Int) (d : Int) (fs : List (Nat × Nat)) (f : Nat × Nat) : selR os d (fs ++ [f]) = if os.getD f.1 0 - os.getD f.2 0 = d then selR os d fs ++ [toPr f] else selR os d fs := by
  unfold selR
  rw [List.filter_append, List.map_append, List.filter_cons]
  by_cases h : os.getD f.1 0 - os.getD f.2 0 = d
  · rw [if_pos h, if_pos (decide_eq_true h)]
    rfl
  · rw [if_neg h, if_neg (by rw [decide_eq_false h]; decide)]
    simp
/-- all pairs of attempts at a distance, by the second -/
structure SharedL (gs : List Int) (tl : Tl) (d : Int) (ps : List Pr) : Prop where
  mem : ∀ p ∈ ps, ∃ i j : Nat, p = ((i : Int), (j : Int)) ∧ j < i ∧ (tl = .fin → i ≤ gs.length) ∧ off gs tl i - off gs tl j = d
  all : ∀ i j : Nat, j < i → (tl = .fin → i ≤ gs.length) → off gs tl i - off gs tl j = d → ((i : Int), (j : Int)) ∈ ps
  srt : ps.Pairwise (fun p q => p.2 < q.2)
theorem pw_ext {α : Type} {r : α → α → Prop} (irr : ∀ x, ¬ r x x) (asym : ∀ x y, r x y → ¬ r y x) : ∀ {l m : List α}, l.Pairwise r → m.Pairwise r → (∀ x, x ∈ l ↔ x ∈ m) → l = m
  | [], [], _, _, _ => rfl
  | [], y :: m, _, _, h => nomatch (h y).mpr (List.mem_cons_self ..)
  | x :: l, [], _, _, h => nomatch (h x).mp (List.mem_cons_self ..)
  | x :: l, y :: m, hl, hm, h => by
    obtain ⟨hl1, hl2⟩ := List.pairwise_cons.mp hl
    obtain ⟨hm1, hm2⟩ := List.pairwise_cons.mp hm
    have e : x = y := by
      rcases List.mem_cons.mp ((h x).mp (List.mem_cons_self ..)) with z | z
      · exact z
      · rcases List.mem_cons.mp ((h y).mpr (List.mem_cons_self ..)) with z2 | z2
        · exact z2.symm
        · exact absurd (hm1 x z) (asym _ _ (hl1 y z2))
    subst e
    congr 1
    refine pw_ext irr asym hl2 hm2 fun z => ⟨fun hz => ?_, fun hz => ?_⟩
    · rcases List.mem_cons.mp ((h z).mp (List.mem_cons_of_mem _ hz)) with e | e
      · rw [e] at hz
        exact absurd (hl1 x hz) (irr x)
      · exact e
    · rcases List.mem_cons.mp ((h z).mpr (List.mem_cons_of_mem _ hz)) with e | e
      · rw [e] at hz
        exact absurd (hm1 x hz) (irr x)
      · exact e
theorem SharedL.one {gs : List Int} {tl : Tl} {d : Int} {ps qs : List Pr} (h : SharedL gs tl d ps) (g : SharedL gs tl d qs) : ps = qs := by
  refine pw_ext (r := fun p q : Pr => p.2 < q.2) (fun x => by omega) (fun x y => by omega) h.srt g.srt fun x => ⟨fun hx => ?_, fun hx => ?_⟩
  · obtain ⟨i, j, rfl, h0, h1, h2⟩ := h.mem x hx
    exact g.all i j h0 h1 h2
  · obtain ⟨i, j, rfl, h0, h1, h2⟩ := g.mem x hx
    exact h.all i j h0 h1 h2
theorem BeyT.pos {gs : List Int} {reach : Int} {n : Nat} {tl : Tl} (B : BeyT gs reach n tl) : gs.length + 1 ≤ n := by
  cases tl with
  | times b => have := Bey.lo B; omega
  | fin => exact Nat.le_of_eq (Eq.symm B)
  | rep m => exact Nat.le_of_eq (Eq.symm B)
theorem off_le_iff {gs : List Int} {tl : Tl} (okG : GapsOk gs) (okT : TlOk gs.length tl) {i j : Nat} (hi : tl = .fin → i ≤ gs.length) (hj : tl = .fin → j ≤ gs.length) : off gs tl i < off gs tl j ↔ i < j := by
  constructor
  · intro h
    rcases Nat.lt_trichotomy i j with z | z | z
    · exact z
    · subst z; omega
    · have := off_lt okG okT z hi; omega
  · intro h
    exact off_lt okG okT h hj
theorem shared_of {gs : List Int} {tl : Tl} (okG : GapsOk gs) (okT : TlOk gs.length tl) (hnr : ∀ m, tl ≠ .rep m) {d : Int} (hd : 1 ≤ d) {n : Nat} (B : BeyT gs d n tl) {fs : List (Nat × Nat)} (h : RchF (offL gs tl n) d n fs) : SharedL gs tl d (selR (offL gs tl n) d fs) := by
  have hl := h.inn
  have hall := h.all
  rw [offL_len] at hl hall
  have fin : ∀ {k : Nat}, k < n → tl = .fin → k ≤ gs.length := fun {k} hk e => by
    subst e
    have : n = gs.length + 1 := B
    omega
  have od : ∀ {k : Nat}, k < n → (offL gs tl n).getD k 0 = off gs tl k := fun hk => offL_getD _ _ hk
  refine ⟨fun p hp => ?_, fun i j hij hi e => ?_, ?_⟩
  · obtain ⟨f, hf, rfl⟩ := List.mem_map.mp hp
    obtain ⟨hf1, hf2⟩ := List.mem_filter.mp hf
    obtain ⟨a1, a2, a3, a4⟩ := hl f hf1
    have hf2 := of_decide_eq_true hf2
    rw [od a2, od a1] at hf2
    refine ⟨f.1, f.2, rfl, ?_, fin a2, hf2⟩
    refine (off_le_iff okG okT (fin a1) (fin a2)).mp ?_
    omega
  · have hin : i < n := by
      rcases Nat.lt_or_ge i n with z | z
      · exact z
      · exfalso
        cases tl with
        | fin =>
          have h1 := hi rfl
          have : n = gs.length + 1 := B
          omega
        | rep m => exact hnr m rfl
        | times b =>
          have := Bey.far okG okT B z hij
          omega
    have hjn : j < n := by omega
    obtain ⟨e', he'⟩ := hall j hjn i hin (by rw [od hjn, od hin]; omega)
    obtain ⟨a1, a2, a3, a4⟩ := hl _ he'
    have a2 : e' < n := a2
    have a3 : d + (offL gs tl n).getD j 0 ≤ (offL gs tl n).getD e' 0 := a3
    have a4 : ∀ k < e', (offL gs tl n).getD k 0 < d + (offL gs tl n).getD j 0 := a4
    rw [od hjn, od a2] at a3
    have ee : e' = i := by
      rcases Nat.lt_trichotomy e' i with z | z | z
      · have := (off_le_iff okG okT (fin a2) (fin hin)).mpr z
        omega
      · exact z
      · have := a4 i z
        rw [od hin, od hjn] at this
        omega
    subst ee
    refine List.mem_map.mpr ⟨(e', j), List.mem_filter.mpr ⟨he', decide_eq_true ?_⟩, rfl⟩
    show (offL gs tl n).getD e' 0 - (offL gs tl n).getD j 0 = d
    rw [od hjn, od a2]
    exact e
  · unfold selR
    refine List.pairwise_map.mpr ((h.srt.sublist List.filter_sublist).imp ?_)
    intro x y hxy
    show (x.2 : Int) < (y.2 : Int)
    omega
/-- the first ones ascend, too -/
theorem SharedL.fst {gs : List Int} {tl : Tl} (okG : GapsOk gs) (okT : TlOk gs.length tl) {d : Int} {ps : List Pr} (h : SharedL gs tl d ps) : ps.Pairwise (fun p q => p.1 < q.1) := by
  refine h.srt.imp_of_mem ?_
  intro p q hp hq hlt
  obtain ⟨i, j, rfl, a0, a1, a2⟩ := h.mem p hp
  obtain ⟨i', j', rfl, b0, b1, b2⟩ := h.mem q hq
  have hlt : (j : Int) < (j' : Int) := hlt
  have h3 := (off_le_iff okG okT (i := j) (j := j') (fun e => by have := a1 e; omega) (fun e => by have := b1 e; omega)).mpr (by omega)
  have h4 := (off_le_iff okG okT (i := i) (j := i') a1 b1).mp (by omega)
  show (i : Int) < (i' : Int)
  omega
end RS
namespace RS
open PySem L2
/-! ### attempts that share a slot, of any tail: the mathematics -/
def VOk (gs : List Int) (tl : Tl) (i : Nat) : Prop := tl = .fin → i ≤ gs.length
def JOk (gs : List Int) : Tl → Nat → Prop
  | .rep _, j => j < gs.length
  | _, _ => True
/-- all pairs of attempts at a distance, those of the first turn alone, by the second -/
structure SharedF (gs : List Int) (tl : Tl) (d : Int) (ps : List Pr) : Prop where
  mem : ∀ p ∈ ps, ∃ i j : Nat, p = ((i : Int), (j : Int)) ∧ j < i ∧ VOk gs tl i ∧ JOk gs tl j ∧ off gs tl i - off gs tl j = d
  all : ∀ i j : Nat, j < i → VOk gs tl i → JOk gs tl j → off gs tl i - off gs tl j = d → ((i : Int), (j : Int)) ∈ ps
  srt : ps.Pairwise (fun p q => p.2 < q.2)
/-- the first attempts that lie a distance later -/
structure RchG (gs : List Int) (tl : Tl) (d : Int) (fs : List (Nat × Nat)) : Prop where
  inn : ∀ f ∈ fs, VOk gs tl f.1 ∧ JOk gs tl f.2 ∧ f.2 < f.1 ∧ d ≤ off gs tl f.1 - off gs tl f.2 ∧ (∀ k < f.1, off gs tl k - off gs tl f.2 < d) ∧ off gs tl f.1 - off gs tl f.2 ≤ 1001 * d + 1000000000000000 ∧ ((∀ m, tl ≠ .rep m) → f.1 ≤ 240)
  srt : fs.Pairwise (fun f g => f.2 < g.2)
  all : ∀ i j : Nat, j < i → VOk gs tl i → JOk gs tl j → d ≤ off gs tl i - off gs tl j → (∃ e, (e, j) ∈ fs) ∨ ∃ f ∈ fs, off gs tl f.1 - off gs tl f.2 < off gs tl i - off gs tl j
theorem VOk.lt {gs : List Int} {tl : Tl} {i j : Nat} (h : VOk gs tl i) (hj : j ≤ i) : VOk gs tl j := fun e => by have := h e; omega
theorem off_iff {gs : List Int} {tl : Tl} (okG : GapsOk gs) (okT : TlOk gs.length tl) {i j : Nat} (hi : VOk gs tl i) (hj : VOk gs tl j) : off gs tl i < off gs tl j ↔ i < j := off_le_iff okG okT hi hj
/-- a gap of a first attempt that is reached is not much greater than the distance -/
theorem bey_gap {gs : List Int} {b d : Int} (okG : GapsOk gs) (okT : TlOk gs.length (.times b)) (hd : 1 ≤ d) {n : Nat} (B : Bey gs b d n) {k : Nat} (hk : k + 2 ≤ n) : gapf gs (.times b) k ≤ 1000 * d + 1000000000000000 := by
  have hb := okT.2
  have hl := last_bd okG okT
  by_cases h1 : k < gs.length
  · rw [gap_low h1]
    have := (gap_bd okG h1).2
    omega
  · by_cases h2 : k < n - 2
    · have := B.le k (by omega) h2
      omega
    · by_cases h3 : k = gs.length
      · subst h3
        rw [gap_times (Nat.le_refl _), Nat.sub_self, Int.pow_succ, Int.pow_zero, Int.one_mul]
        have := Int.mul_le_mul hl.2 hb.2 (by omega) (by decide)
        omega
      · have h4 := gap_next okG okT (k := k - 1) (by omega)
        rw [show k - 1 + 1 = k by omega] at h4
        have h5 := B.le (k - 1) (by omega) (by omega)
        have h6 := gap_pos okG okT (n := k - 1) (fun z => nomatch z)
        have := Int.mul_le_mul h5 hb.2 (by omega) (by omega)
        omega
theorem rchG_of {gs : List Int} {tl : Tl} (okG : GapsOk gs) (okT : TlOk gs.length tl) (hnr : ∀ m, tl ≠ .rep m) {d : Int} (hd : 1 ≤ d) {n : Nat} (B : BeyT gs d n tl) (hn : n ≤ 240) {fs : List (Nat × Nat)} (h : RchF (offL gs tl n) d n fs) : RchG gs tl d fs := by
  have hin := h.inn
  have hall := h.all
  rw [offL_len] at hin hall
  have od : ∀ {k : Nat}, k < n → (offL gs tl n).getD k 0 = off gs tl k := fun hk => offL_getD _ _ hk
  have fin : ∀ {k : Nat}, k < n → VOk gs tl k := fun {k} hk e => by
    subst e
    have : n = gs.length + 1 := B
    omega
  have jok : ∀ j, JOk gs tl j := fun j => by
    cases tl with
    | rep m => exact absurd rfl (hnr m)
    | fin => exact True.intro
    | times b => exact True.intro
  refine ⟨fun f hf => ?_, h.srt, fun i j hij hi _ hdd => ?_⟩
  · obtain ⟨a1, a2, a3, a4⟩ := hin f hf
    rw [od a1, od a2] at a3
    have hlt : f.2 < f.1 := (off_iff okG okT (fin a1) (fin a2)).mp (by omega)
    have low : ∀ k < f.1, off gs tl k - off gs tl f.2 < d := fun k hk => by
      have := a4 k hk
      rw [od a1, od (show k < n by omega)] at this
      omega
    refine ⟨fin a2, jok _, hlt, by omega, low, ?_, fun _ => by omega⟩
    have h1 := low (f.1 - 1) (by omega)
    have h2 := off_succ okT (n := f.1 - 1) (fun e => by have := fin a2 e; omega)
    rw [show f.1 - 1 + 1 = f.1 by omega] at h2
    have h3 : gapf gs tl (f.1 - 1) ≤ 1000 * d + 1000000000000000 := by
      by_cases hl : f.1 - 1 < gs.length
      · rw [gap_low hl]
        have := (gap_bd okG hl).2
        omega
      · cases tl with
        | rep m => exact absurd rfl (hnr m)
        | fin => have := fin a2 rfl; omega
        | times b => exact bey_gap okG okT hd B (by omega)
    omega
  · by_cases hin2 : i < n
    · obtain ⟨e', he'⟩ := hall j (by omega) i hin2 (by rw [od (show j < n by omega), od hin2]; omega)
      exact .inl ⟨e', he'⟩
    · cases tl with
      | rep m => exact absurd rfl (hnr m)
      | fin => have h1 := hi rfl; have : n = gs.length + 1 := B; omega
      | times b =>
        have B : Bey gs b d n := B
        have hlo := B.lo
        by_cases hj : j + 1 < n
        · -- the last attempt lies far enough
          have h1 := B.hi
          have h2 := off_succ okT (n := n - 2) (fun z => nomatch z)
          rw [show n - 2 + 1 = n - 1 by omega] at h2
          have h3 : off gs (.times b) j ≤ off gs (.times b) (n - 2) := by
            by_cases e : j = n - 2
            · rw [e]; exact Int.le_refl _
            · exact Int.le_of_lt (off_lt okG okT (by omega) (fun z => nomatch z))
          obtain ⟨e', he'⟩ := hall j (by omega) (n - 1) (by omega) (by rw [od (show j < n by omega), od (show n - 1 < n by omega)]; omega)
          exact .inl ⟨e', he'⟩
        · -- the gap above the distance is less
          have h1 := B.hi
          have h2 := off_succ okT (n := n - 2) (fun z => nomatch z)
          rw [show n - 2 + 1 = n - 1 by omega] at h2
          obtain ⟨e', he'⟩ := hall (n - 2) (by omega) (n - 1) (by omega) (by rw [od (show n - 2 < n by omega), od (show n - 1 < n by omega)]; omega)
          obtain ⟨a1, a2, a3, a4⟩ := hin _ he'
          have a2 : e' < n := a2
          have a3 : d + (offL gs (.times b) n).getD (n - 2) 0 ≤ (offL gs (.times b) n).getD e' 0 := a3
          rw [od a2, od (show n - 2 < n by omega)] at a3
          have he1 : e' = n - 1 := by
            have : n - 2 < e' := (off_iff okG okT (fin (show n - 2 < n by omega)) (fin a2)).mp (by omega)
            omega
          subst he1
          refine .inr ⟨(n - 1, n - 2), he', ?_⟩
          show off gs (.times b) (n - 1) - off gs (.times b) (n - 2) < _
          have g1 := gap_next okG okT (k := n - 2) (by omega)
          rw [show n - 2 + 1 = n - 1 by omega] at g1
          have g2 := gap_le okG okT (n - 1) (i - 1 - (n - 1)) (by omega)
          rw [show n - 1 + (i - 1 - (n - 1)) = i - 1 by omega] at g2
          have g3 := gap_pos okG okT (n := n - 2) (fun z => nomatch z)
          have g4 := Int.mul_le_mul_of_nonneg_left (show (2 : Int) ≤ b from okT.2.1) (show 0 ≤ gapf gs (.times b) (n - 2) by omega)
          have h3 := off_succ okT (n := i - 1) (fun z => nomatch z)
          rw [show i - 1 + 1 = i by omega] at h3
          have h4 : off gs (.times b) j ≤ off gs (.times b) (i - 1) := by
            by_cases e : j = i - 1
            · rw [e]; exact Int.le_refl _
            · exact Int.le_of_lt (off_lt okG okT (by omega) (fun z => nomatch z))
          omega
/-- those just at the distance -/
def selG (gs : List Int) (tl : Tl) (d : Int) (fs : List (Nat × Nat)) : List Pr := (fs.filter fun f => decide (off gs tl f.1 - off gs tl f.2 = d)).map toPr
theorem selG_snoc (gs : List Int) (tl : Tl) (d : Int) (fs : List (Nat × Nat)) (f : Nat × Nat) : selG gs tl d (fs ++ [f]) = if off gs tl f.1 - off gs tl f.2 = d then selG gs tl d fs ++ [toPr f] else selG gs tl d fs := by
  unfold selG
  rw [List.filter_append, List.map_append, List.filter_cons]
  by_cases h : off gs tl f.1 - off gs tl f.2 = d
  · rw [if_pos h, if_pos (decide_eq_true h)]
    rfl
  · rw [if_neg h, if_neg (by rw [decide_eq_false h]; decide)]
    simp
theorem sharedF_of {gs : List Int} {tl : Tl} (okG : GapsOk gs) (okT : TlOk gs.length tl) {d : Int} {fs : List (Nat × Nat)} (h : RchG gs tl d fs) : SharedF gs tl d (selG gs tl d fs) := by
  refine ⟨fun p hp => ?_, fun i j hij hi hj e => ?_, ?_⟩
  · obtain ⟨f, hf, rfl⟩ := List.mem_map.mp hp
    obtain ⟨hf1, hf2⟩ := List.mem_filter.mp hf
    obtain ⟨a1, a2, a3, _⟩ := h.inn f hf1
    exact ⟨f.1, f.2, rfl, a3, a1, a2, of_decide_eq_true hf2⟩
  · rcases h.all i j hij hi hj (by omega) with ⟨e', he'⟩ | ⟨f, hf, hlt⟩
    · obtain ⟨a1, a2, a3, a4, a5, _⟩ := h.inn _ he'
      have a1 : VOk gs tl e' := a1
      have a4 : d ≤ off gs tl e' - off gs tl j := a4
      have a5 : ∀ k < e', off gs tl k - off gs tl j < d := a5
      have ee : e' = i := by
        rcases Nat.lt_trichotomy e' i with z | z | z
        · have := (off_iff okG okT a1 hi).mpr z
          omega
        · exact z
        · have := a5 i z
          omega
      subst ee
      exact List.mem_map.mpr ⟨(e', j), List.mem_filter.mpr ⟨he', decide_eq_true e⟩, rfl⟩
    · obtain ⟨_, _, _, a4, _⟩ := h.inn f hf
      omega
  · unfold selG
    refine List.pairwise_map.mpr ((h.srt.sublist List.filter_sublist).imp ?_)
    intro x y hxy
    show (x.2 : Int) < (y.2 : Int)
    omega
theorem SharedF.fst {gs : List Int} {tl : Tl} (okG : GapsOk gs) (okT : TlOk gs.length tl) {d : Int} {ps : List Pr} (h : SharedF gs tl d ps) : ps.Pairwise (fun p q => p.1 < q.1) := by
  refine h.srt.imp_of_mem ?_
  intro p q hp hq hlt
  obtain ⟨i, j, rfl, a0, a1, _, a2⟩ := h.mem p hp
  obtain ⟨i', j', rfl, b0, b1, _, b2⟩ := h.mem q hq
  have hlt : (j : Int) < (j' : Int) := hlt
  have h3 := (off_iff okG okT (i := j) (j := j') (a1.lt (by omega)) (b1.lt (by omega))).mpr (by omega)
  have h4 := (off_iff okG okT (i := i) (j := i') a1 b1).mp (by omega)
  show (i : Int) < (i' : Int)
  omega
theorem SharedF.one {gs : List Int} {tl : Tl} {d : Int} {ps qs : List Pr} (h : SharedF gs tl d ps) (g : SharedF gs tl d qs) : ps = qs := by
  refine pw_ext (r := fun p q : Pr => p.2 < q.2) (fun x => by omega) (fun x y => by omega) h.srt g.srt fun x => ⟨fun hx => ?_, fun hx => ?_⟩
  · obtain ⟨i, j, rfl, h0, h1, h2, h3⟩ := h.mem x hx
    exact g.all i j h0 h1 h2 h3
  · obtain ⟨i, j, rfl, h0, h1, h2, h3⟩ := g.mem x hx
    exact h.all i j h0 h1 h2 h3
/-- the single ones -/
def sglB (gs : List Int) : Tl → Pr → Bool
  | .rep m, p => decide (p.2 < ((gs.length - m : Nat) : Int))
  | _, _ => true
/-! ### the next distance -/
/-- the least difference from a distance on, and its least pair -/
def NextD (gs : List Int) (tl : Tl) (d : Int) : Option (Int × Nat × Nat) → Prop
  | none => ∀ i j : Nat, j < i → VOk gs tl i → off gs tl i - off gs tl j < d
  | some (D, i, j) => j < i ∧ VOk gs tl i ∧ JOk gs tl j ∧ off gs tl i - off gs tl j = D ∧ d ≤ D ∧ D ≤ 1001 * d + 1000000000000000 ∧ ((∀ m, tl ≠ .rep m) → i ≤ 240) ∧ (∀ i' j' : Nat, j' < i' → VOk gs tl i' → d ≤ off gs tl i' - off gs tl j' → D ≤ off gs tl i' - off gs tl j') ∧
    ∀ i' j' : Nat, j' < i' → VOk gs tl i' → JOk gs tl j' → off gs tl i' - off gs tl j' = D → j ≤ j'
theorem off_per {gs : List Int} {m : Nat} (h1 : 1 ≤ m) (h2 : m ≤ gs.length) {i : Nat} (hi : gs.length - m ≤ i) : off gs (.rep m) (i + m) = off gs (.rep m) i + per gs m := by
  have hr : (i - (gs.length - m)) % m < m := Nat.mod_lt _ (by omega)
  have hdm := Nat.mod_add_div (i - (gs.length - m)) m
  have a1 := off_turn h1 h2 (j := gs.length - m + (i - (gs.length - m)) % m) (by omega) (by omega) ((i - (gs.length - m)) / m)
  have a2 := off_turn h1 h2 (j := gs.length - m + (i - (gs.length - m)) % m) (by omega) (by omega) ((i - (gs.length - m)) / m + 1)
  rw [show gs.length - m + (i - (gs.length - m)) % m + m * ((i - (gs.length - m)) / m) = i by omega] at a1
  rw [show gs.length - m + (i - (gs.length - m)) % m + m * ((i - (gs.length - m)) / m + 1) = i + m by rw [Nat.mul_succ]; omega] at a2
  rw [a1, a2, Int.natCast_add, Int.add_mul]
  simp
  omega
/-- a pair of later turns has the difference of one of the first -/
theorem pair_back {gs : List Int} {tl : Tl} (okT : TlOk gs.length tl) : ∀ (j i : Nat), j < i → VOk gs tl i → ∃ i0 j0 : Nat, j0 < i0 ∧ VOk gs tl i0 ∧ JOk gs tl j0 ∧ off gs tl i0 - off gs tl j0 = off gs tl i - off gs tl j := by
  cases tl with
  | fin => exact fun j i h hi => ⟨i, j, h, hi, True.intro, rfl⟩
  | times b => exact fun j i h hi => ⟨i, j, h, hi, True.intro, rfl⟩
  | rep m =>
    have h1 : 1 ≤ m := okT.1
    have h2 : m ≤ gs.length := okT.2
    intro j
    induction j using Nat.strongRecOn with
    | ind j ih =>
      intro i h hi
      by_cases hj : j < gs.length
      · exact ⟨i, j, h, hi, hj, rfl⟩
      · obtain ⟨i0, j0, a1, a2, a3, a4⟩ := ih (j - m) (by omega) (i - m) (by omega) (fun e => nomatch e)
        have b1 := off_per h1 h2 (i := j - m) (by omega)
        have b2 := off_per h1 h2 (i := i - m) (by omega)
        rw [show j - m + m = j by omega] at b1
        rw [show i - m + m = i by omega] at b2
        exact ⟨i0, j0, a1, a2, a3, by omega⟩
theorem nextD_none {gs : List Int} {tl : Tl} (okT : TlOk gs.length tl) {d : Int} (h : RchG gs tl d []) : NextD gs tl d none := fun i j hij hi => by
  obtain ⟨i0, j0, a1, a2, a3, a4⟩ := pair_back okT j i hij hi
  refine Classical.byContradiction fun z => ?_
  rcases h.all i0 j0 a1 a2 a3 (by omega) with ⟨e, he⟩ | ⟨f, hf, _⟩
  · cases he
  · cases hf
/-- the least of the tuples is the next distance -/
theorem nextD_some {gs : List Int} {tl : Tl} (okG : GapsOk gs) (okT : TlOk gs.length tl) {d : Int} {fs : List (Nat × Nat)} (h : RchG gs tl d fs) {f : Nat × Nat} (hf : f ∈ fs) (hmin : ∀ g ∈ fs, off gs tl f.1 - off gs tl f.2 < off gs tl g.1 - off gs tl g.2 ∨ (off gs tl f.1 - off gs tl f.2 = off gs tl g.1 - off gs tl g.2 ∧ f.1 ≤ g.1)) : NextD gs tl d (some (off gs tl f.1 - off gs tl f.2, f.1, f.2)) := by
  obtain ⟨a1, a2, a3, a4, a5, a6, a7⟩ := h.inn f hf
  have least : ∀ i' j' : Nat, j' < i' → VOk gs tl i' → JOk gs tl j' → d ≤ off gs tl i' - off gs tl j' → off gs tl f.1 - off gs tl f.2 ≤ off gs tl i' - off gs tl j' := fun i' j' h1 h2 h3 h4 => by
    rcases h.all i' j' h1 h2 h3 h4 with ⟨e, he⟩ | ⟨g, hg, hlt⟩
    · obtain ⟨b1, b2, b3, b4, b5, _⟩ := h.inn _ he
      have b1 : VOk gs tl e := b1
      have b5 : ∀ k < e, off gs tl k - off gs tl j' < d := b5
      have hle : e ≤ i' := by
        rcases Nat.lt_or_ge i' e with z | z
        · have := b5 i' z
          omega
        · exact z
      have h5 : off gs tl e ≤ off gs tl i' := by
        rcases Nat.lt_or_eq_of_le hle with z | z
        · exact Int.le_of_lt ((off_iff okG okT b1 h2).mpr z)
        · rw [z]; exact Int.le_refl _
      have h6 := hmin _ he
      simp only at h6
      omega
    · have h6 := hmin g hg
      omega
  refine ⟨a3, a1, a2, rfl, a4, a6, a7, fun i' j' h1 h2 h3 => ?_, fun i' j' h1 h2 h3 h4 => ?_⟩
  · obtain ⟨i0, j0, b1, b2, b3, b4⟩ := pair_back okT j' i' h1 h2
    have := least i0 j0 b1 b2 b3 (by omega)
    omega
  · rcases h.all i' j' h1 h2 h3 (by omega) with ⟨e, he⟩ | ⟨g, hg, hlt⟩
    · obtain ⟨b1, b2, b3, b4, b5, _⟩ := h.inn _ he
      have b1 : VOk gs tl e := b1
      have b4 : d ≤ off gs tl e - off gs tl j' := b4
      have b5 : ∀ k < e, off gs tl k - off gs tl j' < d := b5
      have h6 := hmin _ he
      simp only at h6
      have hle : e ≤ i' := by
        rcases Nat.lt_or_ge i' e with z | z
        · have := b5 i' z
          omega
        · exact z
      have h5 : e = i' := by
        rcases Nat.lt_or_eq_of_le hle with z | z
        · have := (off_iff okG okT b1 h2).mpr z
          omega
        · exact z
      subst h5
      have h7 : f.1 ≤ e := by omega
      have h8 : off gs tl f.2 ≤ off gs tl j' := by
        have : off gs tl f.1 ≤ off gs tl e := by
          rcases Nat.lt_or_eq_of_le h7 with z | z
          · exact Int.le_of_lt ((off_iff okG okT a1 h2).mpr z)
          · rw [z]; exact Int.le_refl _
        omega
      rcases Nat.lt_or_ge j' f.2 with z | z
      · have := (off_iff okG okT (h2.lt (by omega)) (a1.lt (by omega))).mpr z
        omega
      · exact z
    · have h6 := hmin g hg
      omega
theorem NextD.one {gs : List Int} {tl : Tl} (okG : GapsOk gs) (okT : TlOk gs.length tl) {d : Int} {r s : Option (Int × Nat × Nat)} (h : NextD gs tl d r) (g : NextD gs tl d s) : r = s := by
  match r, s, h, g with
  | none, none, _, _ => rfl
  | none, some (D, i, j), h, ⟨a1, a2, a3, a4, a5, _⟩ =>
    have := h i j a1 a2
    omega
  | some (D, i, j), none, ⟨a1, a2, a3, a4, a5, _⟩, h =>
    have := h i j a1 a2
    omega
  | some (D, i, j), some (D', i', j'), ⟨a1, a2, a3, a4, a5, _, _, a6, a7⟩, ⟨b1, b2, b3, b4, b5, _, _, b6, b7⟩ =>
    have h1 := a6 i' j' b1 b2 (by omega)
    have h2 := b6 i j a1 a2 (by omega)
    have eD : D = D' := by omega
    subst eD
    have h3 := a7 i' j' b1 b2 b3 b4
    have h4 := b7 i j a1 a2 a3 a4
    have ej : j = j' := by omega
    subst ej
    have ei : i = i' := by
      rcases Nat.lt_trichotomy i i' with z | z | z
      · have := (off_iff okG okT a2 b2).mpr z; omega
      · exact z
      · have := (off_iff okG okT b2 a2).mpr z; omega
    subst ei
    rfl
end RS
namespace RS
open PySem L2
section
variable {P : Program} {w : World} {K : PySem.W.Frag} {mg : Str → Option Value} {base : Heap}
/-! ### the least difference from a distance on -/
def spCkD : Sp := fun vs H Q _ => ∃ i : Int, vs = [.int i] ∧ 1 ≤ i ∧ Q .non H
theorem scCkD : FnScope ["distance"] ["distance"] (defScope s_check_distance) := ⟨rfl, rfl, rfl, by decide +kernel, rfl, by decide +kernel, by decide +kernel⟩
theorem ok_ckD {f C fI : Addr} {fd fdI : FuncData} (F : Fun K "_check_distance" "_check_distance" s_check_distance f fd) (T : Txt K mg C) (GI : FnOk P w K mg base CX0 1 fI fdI ["value"] spIsInt) (bI : Binds K fdI ["value"] []) (mI : mg "is_integer" = some (.ref fI)) (kI : PySem.W.keepIn K (.ref fI) = true) : FnOk P w K mg base CX0 2 f fd ["distance"] spCkD := by
  refine F.ok scCkD (fun vs H Q E h => ?_) (fun cdv A outer s H vs Q E hr h => ?_)
  · obtain ⟨i, rfl, _⟩ := h
    rfl
  · obtain ⟨i, rfl, h1, k⟩ := h
    refine ⟨_, (pss_one (ps_if (PW.pt (pw_or (pt_not (pt_val (pe_call GI hr rfl mI kI bI .nil pass0 (pa_cons (pv 0) pa_nil)))) (pw_or1 (pt_cmpR op_lt (pv 0) pe_int (nomark _))))) (pss_one ps_never) pss_nil)), ?_⟩
    exact ⟨_, rfl, i, rfl, true, rfl, iteF ⟨_, rfl, _, _, rfl, rfl, _, rfl, iteFb (decide_eq_false (by omega)) k⟩⟩
/-- the attempt that reaches a distance from a later client's attempt -/
structure Reach (gs : List Int) (m : Nat) (d : Int) (l e : Nat) : Prop where
  le : d + off gs (.rep m) l ≤ off gs (.rep m) e
  lt : 0 < e → off gs (.rep m) (e - 1) < d + off gs (.rep m) l
def spRR (C : Addr) : Sp := fun vs H Q _ => ∃ (p g t o : Addr) (gs : List Int) (m : Nat) (d : Int) (l : Nat), vs = [.ref p, .int d, .int (l : Int)] ∧ RuleAt C H p g t o gs (.rep m) ∧ 1 ≤ d ∧ d < 2 ^ 150 ∧ l < gs.length ∧
  ∀ q r e H', H q = none → Same H H' → Reach gs m d l e → H' q = some (.tup [.int (off gs (.rep m) e - off gs (.rep m) l), .ref r]) → H' r = some (.tup [.int (e : Int), .int (l : Int)]) → Q (.ref q) H'
theorem scRR : FnScope ["rule", "distance", "later", "earlier"] ["rule", "distance", "later"] (defScope s_reaching_repeated) := ⟨rfl, rfl, rfl, by decide +kernel, rfl, by decide +kernel, by decide +kernel⟩
theorem ok_rr {f C fF fO : Addr} {fd fdF fdO : FuncData} (F : Fun K "_reaching_repeated" "_reaching_repeated" s_reaching_repeated f fd) (T : Txt K mg C) (GF : FnOk P w K mg base CX0 5 fF fdF ["self", "distance"] (spFF C)) (bF : Binds K fdF ["self", "distance"] []) (mF : Meth K C "first_from" fF)
    (GO : FnOk P w K mg base CX0 4 fO fdO ["self", "attempt"] (spOff C)) (bO : Binds K fdO ["self", "attempt"] []) (mO : Meth K C "offset" fO) : FnOk P w K mg base CX0 6 f fd ["rule", "distance", "later"] (spRR C) := by
  refine F.ok scRR (fun vs H Q E h => ?_) (fun cdv A outer s H vs Q E hr h => ?_)
  · obtain ⟨p, g, t, o, gs, m, d, l, rfl, _⟩ := h
    rfl
  · obtain ⟨p, g, t, o, gs, m, d, l, rfl, R, h1, h2, hlt, k⟩ := h
    have hr4 := hr.mono (show 4 ≤ 5 by decide)
    refine ⟨_, (pss_cons (ps_set (i := 3) scRR.nd rfl (Or.inl rfl) (pe_meth (pv 0) T.cl mF GF hr bF .nil pass0 (pa_cons (pe_op op_add (pe_meth (pv 0) T.cl mO GO hr4 bO .nil pass0 (pa_cons (pv 2) pa_nil)) (pv 1)) pa_nil))) (pss_one (ps_ret (pe_tup (pa_cons (pe_op op_sub (pe_meth (pv 0) T.cl mO GO hr4 bO .nil pass0 (pa_cons (pv 3) pa_nil)) (pe_meth (pv 0) T.cl mO GO hr4 bO .nil pass0 (pa_cons (pv 2) pa_nil))) (pa_cons (pe_tup (pa_cons (pv 3) (pa_cons (pv 2) pa_nil))) pa_nil)))))), ?_⟩
    obtain ⟨dx, hob⟩ := R.ob
    refine ⟨_, rfl, p, dx, _, rfl, hob, flds_no _ _ _ (by decide +kernel) (by decide +kernel) (by decide +kernel), _, rfl, p, dx, _, rfl, hob, flds_no _ _ _ (by decide +kernel) (by decide +kernel) (by decide +kernel), _, rfl, p, g, t, o, gs, .rep m, l, rfl, R, True.intro, fun H1 S1 => ?_⟩
    refine ⟨_, rfl, _, _, rfl, rfl, p, g, t, o, gs, .rep m, _, rfl, R.mono S1, ?_, fun r H2 S2 hF => ?_⟩
    · show off gs (.rep m) l + d < 2 ^ 200
      rw [off_low (by omega)]
      have h3 := (pre_le R.okG l (by omega)).2
      have h4 := R.okG.1
      have h5 : (2 : Int) ^ 150 + 1000000000000 * 20 < 2 ^ 200 := by decide
      omega
    rcases hF with ⟨_, h, _⟩ | ⟨e, rfl, _, he1, he2⟩
    · cases h
    have S12 := S1.trans S2
    have R2 := R.mono S12
    obtain ⟨dx2, hob2⟩ := R2.ob
    refine ⟨_, rfl, p, dx2, _, rfl, hob2, flds_no _ _ _ (by decide +kernel) (by decide +kernel) (by decide +kernel), _, rfl, p, g, t, o, gs, .rep m, e, rfl, R2, True.intro, fun H3 S3 => ?_⟩
    have R3 := R2.mono S3
    obtain ⟨dx3, hob3⟩ := R3.ob
    refine ⟨_, rfl, p, dx3, _, rfl, hob3, flds_no _ _ _ (by decide +kernel) (by decide +kernel) (by decide +kernel), _, rfl, p, g, t, o, gs, .rep m, l, rfl, R3, True.intro, fun H4 S4 => ?_⟩
    refine ⟨_, _, rfl, rfl, _, rfl, _, rfl, by show 2 ≤ sizeLine; decide, fun r1 hr1 => ⟨by show 2 ≤ sizeLine; decide, fun q hq => ?_⟩⟩
    have S := (S12.trans S3).trans S4
    have e1 := upd_same (H := H4) (a := r1) (o := .tup [.int (e : Int), .int (l : Int)])
    have T1 := same_new (o := .tup [.int (e : Int), .int (l : Int)]) hr1
    have T2 := same_new (o := .tup [.int (off gs (.rep m) e - off gs (.rep m) l), .ref r1]) hq
    exact k q r1 e _ (S.free (T1.free hq)) ((S.trans T1).trans T2) ⟨by omega, fun h => by have := he2 h; omega⟩ upd_same (T2 _ _ e1)
end
end RS
namespace RS
open PySem L2
section
variable {P : Program} {w : World} {K : PySem.W.Frag} {mg : Str → Option Value} {base : Heap}
/-! ### _reaching, of any tail -/
/-- the tuples that _reaching makes -/
def RchI (H : Hp) (rs : List Addr) (os : List Int) (fs : List (Nat × Nat)) : Prop := rs.length = fs.length ∧ ∀ (j : Nat) (f : Nat × Nat), fs[j]? = some f → ∃ t u, rs[j]? = some t ∧ H t = some (.tup [.int (os.getD f.1 0 - os.getD f.2 0), .ref u]) ∧ H u = some (.tup [.int (f.1 : Int), .int (f.2 : Int)])
theorem RchI.kx {H H' : Hp} {rs : List Addr} {os : List Int} {fs : List (Nat × Nat)} (t : RchI H rs os fs) (h : ∀ (r : Addr) (xs : List V), H r = some (.tup xs) → H' r = some (.tup xs)) : RchI H' rs os fs :=
  ⟨t.1, fun j f e => let ⟨t', u, a, b, c⟩ := t.2 j f e; ⟨t', u, a, h _ _ b, h _ _ c⟩⟩
theorem RchI.snoc {H : Hp} {rs : List Addr} {os : List Int} {fs : List (Nat × Nat)} {t u : Addr} {f : Nat × Nat} (h : RchI H rs os fs) (h1 : H t = some (.tup [.int (os.getD f.1 0 - os.getD f.2 0), .ref u])) (h2 : H u = some (.tup [.int (f.1 : Int), .int (f.2 : Int)])) : RchI H (rs ++ [t]) os (fs ++ [f]) := by
  refine ⟨by rw [List.length_append, List.length_append, h.1]; rfl, fun j g e => ?_⟩
  by_cases hj : j < fs.length
  · rw [List.getElem?_append_left hj] at e
    obtain ⟨t', u', e1, e2, e3⟩ := h.2 j g e
    exact ⟨t', u', by rw [List.getElem?_append_left (by rw [h.1]; exact hj)]; exact e1, e2, e3⟩
  · have hl := (List.getElem?_eq_some_iff.mp e).1
    rw [List.length_append, List.length_singleton] at hl
    have ej : j = fs.length := by omega
    subst ej
    rw [List.getElem?_append_right (Nat.le_refl _), Nat.sub_self] at e
    cases e
    exact ⟨t, u, by rw [← h.1, List.getElem?_append_right (Nat.le_refl _), Nat.sub_self]; rfl, h1, h2⟩
/-- the tuples, by the rule's offsets -/
def RchD (H : Hp) (rs : List Addr) (gs : List Int) (tl : Tl) (fs : List (Nat × Nat)) : Prop := rs.length = fs.length ∧ ∀ (j : Nat) (f : Nat × Nat), fs[j]? = some f → ∃ t u, rs[j]? = some t ∧ H t = some (.tup [.int (off gs tl f.1 - off gs tl f.2), .ref u]) ∧ H u = some (.tup [.int (f.1 : Int), .int (f.2 : Int)])
theorem RchD.kx {H H' : Hp} {rs : List Addr} {gs : List Int} {tl : Tl} {fs : List (Nat × Nat)} (t : RchD H rs gs tl fs) (h : ∀ (r : Addr) (xs : List V), H r = some (.tup xs) → H' r = some (.tup xs)) : RchD H' rs gs tl fs :=
  ⟨t.1, fun j f e => let ⟨t', u, a, b, c⟩ := t.2 j f e; ⟨t', u, a, h _ _ b, h _ _ c⟩⟩
theorem RchD.snoc {H : Hp} {rs : List Addr} {gs : List Int} {tl : Tl} {fs : List (Nat × Nat)} {t u : Addr} {f : Nat × Nat} (h : RchD H rs gs tl fs) (h1 : H t = some (.tup [.int (off gs tl f.1 - off gs tl f.2), .ref u])) (h2 : H u = some (.tup [.int (f.1 : Int), .int (f.2 : Int)])) : RchD H (rs ++ [t]) gs tl (fs ++ [f]) := by
  refine ⟨by rw [List.length_append, List.length_append, h.1]; rfl, fun j g e => ?_⟩
  by_cases hj : j < fs.length
  · rw [List.getElem?_append_left hj] at e
    obtain ⟨t', u', e1, e2, e3⟩ := h.2 j g e
    exact ⟨t', u', by rw [List.getElem?_append_left (by rw [h.1]; exact hj)]; exact e1, e2, e3⟩
  · have hl := (List.getElem?_eq_some_iff.mp e).1
    rw [List.length_append, List.length_singleton] at hl
    have ej : j = fs.length := by omega
    subst ej
    rw [List.getElem?_append_right (Nat.le_refl _), Nat.sub_self] at e
    cases e
    exact ⟨t, u, by rw [← h.1, List.getElem?_append_right (Nat.le_refl _), Nat.sub_self]; rfl, h1, h2⟩
theorem rchD_of {H : Hp} {rs : List Addr} {gs : List Int} {tl : Tl} {d : Int} {n : Nat} {fs : List (Nat × Nat)} (t : RchI H rs (offL gs tl n) fs) (h : RchF (offL gs tl n) d n fs) : RchD H rs gs tl fs :=
  ⟨t.1, fun j f e => by
    obtain ⟨t', u, a, b, c⟩ := t.2 j f e
    obtain ⟨a1, a2, _⟩ := h.inn f (List.mem_of_getElem? e)
    rw [offL_len] at a2
    rw [offL_getD _ _ a2, offL_getD _ _ a1] at b
    exact ⟨t', u, a, b, c⟩⟩
theorem rchG_rep {gs : List Int} {m : Nat} (okG : GapsOk gs) (okT : TlOk gs.length (.rep m)) {d : Int} (hd : 1 ≤ d) {fs : List (Nat × Nat)} (hl : fs.length = gs.length) (h : ∀ l < gs.length, ∃ e, fs[l]? = some (e, l) ∧ Reach gs m d l e) : RchG gs (.rep m) d fs := by
  have at_ : ∀ {j : Nat} {f : Nat × Nat}, fs[j]? = some f → f.2 = j ∧ Reach gs m d j f.1 := fun {j f} e => by
    have hj := (List.getElem?_eq_some_iff.mp e).1
    obtain ⟨e', h1, h2⟩ := h j (by omega)
    rw [e] at h1
    cases h1
    exact ⟨rfl, h2⟩
  have iff := fun {i j : Nat} => off_lt (i := i) (j := j) okG okT
  refine ⟨fun f hf => ?_, ?_, fun i j hij _ hj _ => ?_⟩
  · obtain ⟨j, e⟩ := List.mem_iff_getElem?.mp hf
    have hj := (List.getElem?_eq_some_iff.mp e).1
    obtain ⟨e2, hR⟩ := at_ e
    rw [e2]
    have h1 := hR.le
    have hlt : j < f.1 := by
      rcases Nat.lt_or_ge j f.1 with z | z
      · exact z
      · rcases Nat.lt_or_eq_of_le z with y | y
        · have := off_lt okG okT y (fun z => nomatch z)
          omega
        · rw [y] at h1
          omega
    have h2 := hR.lt (by omega)
    have h3 := off_succ okT (n := f.1 - 1) (fun z => nomatch z)
    rw [show f.1 - 1 + 1 = f.1 by omega] at h3
    have h4 : gapf gs (.rep m) (f.1 - 1) ≤ 1000000000000 := by
      by_cases hk : f.1 - 1 < gs.length
      · rw [gap_low hk]
        exact (gap_bd okG hk).2
      · rw [gap_rep (by omega)]
        have h5 : (f.1 - 1 - gs.length) % m < m := Nat.mod_lt _ (by have := okT.1; omega)
        exact (gap_bd okG (by have := okT.2; omega)).2
    refine ⟨fun z => (nomatch z), (show j < gs.length by omega), hlt, by omega, fun k hk => ?_, by omega, fun z => absurd rfl (z m)⟩
    have h5 : off gs (.rep m) k ≤ off gs (.rep m) (f.1 - 1) := by
      by_cases e3 : k = f.1 - 1
      · rw [e3]; exact Int.le_refl _
      · exact Int.le_of_lt (off_lt okG okT (by omega) (fun z => nomatch z))
    omega
  · rw [List.pairwise_iff_getElem]
    intro i j hi hj hij
    have h1 := (at_ (List.getElem?_eq_getElem hi)).1
    have h2 := (at_ (List.getElem?_eq_getElem hj)).1
    omega
  · obtain ⟨e, he, _⟩ := h j hj
    exact .inl ⟨e, List.mem_of_getElem? he⟩
def spRg (C : Addr) : Sp := fun vs H Q _ => ∃ (p g t o : Addr) (gs : List Int) (tl : Tl) (d : Int), vs = [.ref p, .int d] ∧ RuleAt C H p g t o gs tl ∧ 1 ≤ d ∧ d < 2 ^ 150 ∧
  ∀ q rs fs H', H q = none → Same H H' → fs.length ≤ 240 → H' q = some (.lst (rs.map V.ref)) → RchD H' rs gs tl fs → RchG gs tl d fs → Q (.ref q) H'
def rchN : List Str := ["rule", "distance", "offsets", "found", "earlier", "later", "offset"]
theorem scRg : FnScope rchN ["rule", "distance"] (defScope s_reaching) := ⟨rfl, rfl, rfl, by decide +kernel, rfl, by decide +kernel, by decide +kernel⟩
theorem BeyT.le {gs : List Int} {reach : Int} {n : Nat} {tl : Tl} (okG : GapsOk gs) (okT : TlOk gs.length tl) (B : BeyT gs reach n tl) (h : reach < 2 ^ 190) : n ≤ 240 := by
  have hg := okG.1
  cases tl with
  | fin => have : n = gs.length + 1 := B; omega
  | rep m => have : n = gs.length + 1 := B; omega
  | times b => have := Bey.bd okG okT B h (by decide); omega
theorem ok_rg {f C fF fB fG fR : Addr} {fd fdF fdB fdG fdR : FuncData} (F : Fun K "_reaching" "_reaching" s_reaching f fd) (T : Txt K mg C) (GF : FnOk P w K mg base CX0 1 fF fdF ["self"] (spFRA C)) (bF : Binds K fdF ["self"] []) (mF : Meth K C "first_repeating" fF)
    (GB : FnOk P w K mg base CX0 3 fB fdB ["rule", "reach"] (spOb C)) (bB : Binds K fdB ["rule", "reach"] []) (mB : mg "offsets_beyond" = some (.ref fB)) (kB : PySem.W.keepIn K (.ref fB) = true)
    (GG : FnOk P w K mg base CX0 1 fG fdG ["self"] (spGaps C)) (bG : Binds K fdG ["self"] []) (mG : Meth K C "gaps" fG)
    (GR : FnOk P w K mg base CX0 6 fR fdR ["rule", "distance", "later"] (spRR C)) (bR : Binds K fdR ["rule", "distance", "later"] []) (mR : mg "_reaching_repeated" = some (.ref fR)) (kR : PySem.W.keepIn K (.ref fR) = true) : FnOk P w K mg base CX0 7 f fd ["rule", "distance"] (spRg C) := by
  refine F.ok scRg (fun vs H Q E h => ?_) (fun cdv A outer s H vs Q E hr h => ?_)
  · obtain ⟨p, g, t, o, gs, tl, d, rfl, _⟩ := h
    rfl
  · obtain ⟨p, g, t, o, gs, tl, d, rfl, R, hd1, hd2, k⟩ := h
    have hr1 := hr.mono (show 1 ≤ 6 by decide)
    have hr3 := hr.mono (show 3 ≤ 6 by decide)
    refine ⟨_, (pss_cons (ps_if (pt_cmpR op_notN (pe_meth0 (pv 0) T.cl mF GF hr1 bF .nil pass0) pe_non (nomark _)) (pss_one (ps_ret (pe_lc (own := [("later", 5)]) (g := gName 5) (tt := tYes) rfl scRg.nd (pi_range1 rfl T.range (pa_cons (pe_callB call_len_seq (by rfl) T.len (by decide +kernel) (pa_cons (pe_meth0 (pv 0) T.cl mG GG hr1 bG .nil pass0) pa_nil)) pa_nil)) (blkOk_by (own := [("later", 5)]) (N := rchN) (sc := (defScope s_reaching)) (by decide +kernel)) (fun _ _ _ _ _ => (pg_name (i := 5) scRg.nd rfl (Or.inl rfl))) (fun _ _ _ _ _ => pts_nil) (fun _ _ _ _ _ => (pe_call GR hr rfl mR kR bR .nil pass0 (pa_cons (pv 0) (pa_cons (pv 1) (pa_cons (pv 5) pa_nil)))))))) pss_nil) (pss_cons (ps_set (i := 2) scRg.nd rfl (Or.inl rfl) (pe_call GB hr3 rfl mB kB bB .nil pass0 (pa_cons (pv 0) (pa_cons (pv 1) pa_nil)))) (pss_cons (ps_set (i := 3) scRg.nd rfl (Or.inl rfl) (pe_lst pa_nil)) (pss_cons (ps_set (i := 4) scRg.nd rfl (Or.inl rfl) pe_int) (pss_cons (ps_for PassesOwn.never rfl (pi_enum (by rfl) T.enum (pa_cons (pv 2) pa_nil)) (pg_tup rfl (pgs_cons (pg_name (i := 5) scRg.nd rfl (Or.inl rfl)) (pgs_cons (pg_name (i := 6) scRg.nd rfl (Or.inl rfl)) pgs_nil))) (pss_cons (ps_while PassesOwn.never (PW.pt (pw_and (pt_cmpR op_lt (pv 4) (pe_callB call_len_seq (by rfl) T.len (by decide +kernel) (pa_cons (pv 2) pa_nil)) (nomark _)) (pw_and1 (pt_cmpR op_lt (pe_ix ix_list (pv 2) (pv 4) (fun _ _ => rfl)) (pe_op op_add (pv 6) (pv 1)) (nomark _))))) (pss_one (ps_set (i := 4) scRg.nd rfl (Or.inl rfl) (pe_op op_add (pv 4) pe_int)))) (pss_one (ps_if (pt_cmpR op_lt (pv 4) (pe_callB call_len_seq (by rfl) T.len (by decide +kernel) (pa_cons (pv 2) pa_nil)) (nomark _)) (pss_one (ps_expr (pe_bm PySem.F.plainAttrs_list PySem.F.slot_list_append PySem.F.type_list_append mt_append (pv 3) (pa_cons (pe_tup (pa_cons (pe_op op_sub (pe_ix ix_list (pv 2) (pv 4) (fun _ _ => rfl)) (pv 6)) (pa_cons (pe_tup (pa_cons (pv 4) (pa_cons (pv 5) pa_nil))) pa_nil))) pa_nil)))) pss_nil)))) (pss_one (ps_ret (pv 3)))))))), ?_⟩
    obtain ⟨dx, hob⟩ := R.ob
    refine ⟨_, rfl, p, dx, _, rfl, hob, flds_no _ _ _ (by decide +kernel) (by decide +kernel) (by decide +kernel), p, g, t, o, gs, tl, rfl, R, ?_⟩
    have okG := R.okG
    have okT := R.okT
    by_cases hrep : ∃ m, tl = .rep m
    · obtain ⟨m, rfl⟩ := hrep
      refine ⟨rfl, _, rfl, iteTb rfl ?_⟩
      have hg20 := okG.1
      refine ⟨_, rfl, p, dx, _, rfl, hob, flds_no _ _ _ (by decide +kernel) (by decide +kernel) (by decide +kernel), p, g, t, o, gs, .rep m, rfl, R, fun l0 hl0 => ?_⟩
      have S1 := same_new (o := .lst (gs.map V.int)) hl0
      refine ⟨l0, _, rfl, .inl (SqL.of upd_same), _, rfl, ?_⟩
      rw [List.length_map]
      generalize (upd H l0 (.lst (gs.map V.int))) = H1 at S1 ⊢
      have R1 := R.mono S1
      refine ⟨by omega, by omega, fun D hD => ?_⟩
      refine lc_range (lo := 0) (n := ((gs.length : Int)).toNat) (fun i H' => Same H1 H' ∧ ∃ (rs : List Addr) (fs : List (Nat × Nat)), H' D = some (.lst (rs.map V.ref)) ∧ RchD H' rs gs (.rep m) fs ∧ fs.length = i ∧ ∀ l < i, ∃ e, fs[l]? = some (e, l) ∧ Reach gs m d l e) ⟨same_new hD, [], [], upd_same, ⟨rfl, (fun j f h => nomatch h)⟩, rfl, fun l h => absurd h (Nat.not_lt_zero _)⟩ (fun i H2 hi z => ?_) (fun H2 z => ?_)
      · obtain ⟨S2, rs, fs, hrs, tp, hlen, hall⟩ := z
        refine ⟨rfl, yes_t (iteT ?_)⟩
        refine ⟨_, rfl, _, rfl, _, rfl, p, g, t, o, gs, m, d, i, by rw [Int.zero_add]; rfl, R1.mono S2, hd1, hd2, by omega, fun q r e H3 hq S3 hre hq3 hr3 => ?_⟩
        have hD3 := S3 _ _ hrs
        have nt : ∀ (y : Addr) (xs : List V), H3 y = some (.tup xs) → upd H3 D (.lst (rs.map V.ref ++ [V.ref q])) y = some (.tup xs) := fun y xs e => by
          rw [upd_ne (ne_of e hD3 (by intro z; cases z))]
          exact e
        refine ⟨_, hD3, by rw [List.length_map, tp.1]; exact small1000 (by omega), same_app hD (S2.trans S3), rs ++ [q], fs ++ [(e, i)], by rw [upd_same, List.map_append]; rfl, RchD.snoc ((tp.kx fun r xs e => S3 r _ e).kx nt) (nt _ _ hq3) (nt _ _ hr3), by rw [List.length_append, hlen]; rfl, fun l hl => ?_⟩
        by_cases hli : l < i
        · obtain ⟨e', h1, h2⟩ := hall l hli
          exact ⟨e', by rw [List.getElem?_append_left (by omega)]; exact h1, h2⟩
        · have : l = i := by omega
          subst this
          exact ⟨e, by rw [List.getElem?_append_right (by omega), hlen, Nat.sub_self]; rfl, hre⟩
      obtain ⟨S2, rs, fs, hrs, tp, hlen, hall⟩ := z
      have hlen : fs.length = gs.length := hlen
      exact k D rs fs H2 (S1.free hD) (S1.trans S2) (by omega) hrs tp (rchG_rep okG okT hd1 hlen hall)
    have hnr : ∀ m, tl ≠ .rep m := fun m e => hrep ⟨m, e⟩
    have hfr : frV gs tl = .non := by
      cases tl with
      | rep m => exact absurd rfl (hnr m)
      | fin => rfl
      | times b => rfl
    rw [hfr]
    refine ⟨rfl, _, rfl, iteFb rfl ?_⟩
    have hd3 : d < 2 ^ 200 := Int.lt_trans hd2 (by decide)
    refine ⟨_, rfl, _, rfl, p, g, t, o, gs, tl, d, rfl, R, hd3, fun q n H1 hq S1 hB hq1 => ?_⟩
    have hn240 := BeyT.le okG okT hB (Int.lt_trans hd2 (by decide))
    have hasc : Asc (offL gs tl n) := asc_any okG okT (fun e => by subst e; exact Nat.le_of_eq hB)
    have hol : (offL gs tl n).length = n := offL_len _ _ _
    have k : ∀ q rs fs H', H q = none → Same H H' → fs.length ≤ n → H' q = some (.lst (rs.map V.ref)) → RchI H' rs (offL gs tl n) fs → RchF (offL gs tl n) d n fs → Q (.ref q) H' := fun q rs fs H' a b c e tp hF => k q rs fs H' a b (by omega) e (rchD_of tp hF) (rchG_of okG okT hnr hd1 hB hn240 hF)
    generalize offL gs tl n = os at hq1 hasc hol k
    refine ⟨(by show 0 ≤ sizeLine; decide), fun L hL => ?_⟩
    have SL := same_new (o := .lst []) hL
    have hL1 : (upd H1 L (.lst [])) L = some (.lst []) := upd_same
    have hLH : H L = none := S1.free hL
    have hq2 := SL _ _ hq1
    have nqL : q ≠ L := ne_of_none hq1 hL
    have S2 := S1.trans SL
    generalize upd H1 L (.lst []) = H2 at hL1 hq2 S2
    clear SL hL hq1 S1
    have at_ : ∀ j, j < n → atI (os.map V.int) (j : Int) = some (.int (os.getD j 0)) := fun j hj => atI_nat (by rw [List.getElem?_map, List.getElem?_eq_getElem (by omega), List.getD_eq_getElem?_getD, List.getElem?_eq_getElem (by omega)]; rfl)
    refine ⟨_, rfl, q, _, rfl, SqL.of hq2, for_it (walk_enum (a := q) (xs := os.map V.int)) (fun i σ H' => ∃ (e : Nat) (v5 v6 : Option V) (rs : List Addr) (fs : List (Nat × Nat)), σ = [some (.ref p), some (.int d), some (.ref q), some (.ref L), some (.int (e : Int)), v5, v6] ∧ Same H H' ∧ H' q = some (.lst (os.map V.int)) ∧ H' L = some (.lst (rs.map V.ref)) ∧ RchI H' rs os fs ∧ fs.length ≤ i ∧ RchF os d i fs ∧ e ≤ n ∧ ∀ k < e, ∀ l, i ≤ l → l < n → os.getD k 0 < os.getD l 0 + d)
      ⟨0, none, none, [], [], rfl, S2, hq2, hL1, ⟨rfl, (fun j f h => nomatch h)⟩, Nat.le_refl _, ⟨(fun f h => nomatch h), List.Pairwise.nil, (fun l h => absurd h (Nat.not_lt_zero _))⟩, Nat.zero_le _, (fun k h => absurd h (Nat.not_lt_zero _))⟩ (fun i σ H' _ z => let ⟨_, _, _, _, _, _, _, z, _⟩ := z; SqL.of z) ?_ ?_⟩
    · rintro i x σ H3 H4 hi ⟨e, v5, v6, rs, fs, rfl, S3, hq3, hL3, tp, hfl, hF, hen, hlow⟩ ⟨T2, x1, y1, rfl, hT, rfl, hx1, hy1⟩
      obtain rfl := Option.some.inj hx1
      rw [List.length_map, hol] at hi
      obtain ⟨y, hy, rfl⟩ := map_of hy1
      have hyg : os.getD i 0 = y := by rw [List.getD_eq_getElem?_getD, hy]; rfl
      have sT := same_new (o := .tup [V.int (i : Nat), .int y]) hT
      have S4 := S3.trans sT
      have hq4 := sT _ _ hq3
      have hL4 := sT _ _ hL3
      have tp4 := tp.kx fun r xs e => sT r _ e
      refine ⟨T2, _, rfl, SqT.of upd_same, rfl, _, _, rfl, _, _, rfl, rfl, ?_⟩
      generalize (upd H3 T2 (.tup [V.int (i : Nat), .int y])) = H4 at S4 hq4 hL4 tp4 ⊢
      clear sT hT S3 hq3 hL3 tp hx1 hy1
      subst hyg
      -- the first attempt that lies far enough
      refine ⟨fun m σ H' => H' = H4 ∧ ∃ e : Nat, m = n - e ∧ e ≤ n ∧ σ = [some (.ref p), some (.int d), some (.ref q), some (.ref L), some (.int (e : Int)), some (.int (i : Nat)), some (.int (os.getD i 0))] ∧ ∀ k < e, os.getD k 0 < os.getD i 0 + d,
        ⟨n - e, rfl, e, rfl, hen, rfl, fun k hk => hlow k hk i (Nat.le_refl _) hi⟩, ?_⟩
      rintro m σ H' ⟨rfl, e, rfl, hen, rfl, hlow2⟩
      have low2 : ∀ k < e, ∀ l, i + 1 ≤ l → l < n → os.getD k 0 < os.getD l 0 + d := fun k hk l hl1 hl2 => by
        have := hlow2 k hk
        have := hasc i l (by omega) (by omega)
        omega
      refine ⟨_, rfl, _, rfl, q, _, rfl, .inl (SqL.of hq4), _, _, rfl, rfl, _, rfl, ?_⟩
      rw [List.length_map, hol]
      by_cases he : e < n
      · refine iteTb (decide_eq_true (by omega)) ?_
        refine ⟨_, rfl, _, rfl, q, _, _, _, rfl, rfl, SqL.of hq4, at_ e he, _, rfl, _, rfl, _, _, rfl, rfl, _, _, rfl, rfl, _, rfl, ?_⟩
        by_cases hlt : os.getD e 0 < os.getD i 0 + d
        · refine iteTb (decide_eq_true hlt) ?_
          refine ⟨fun σ' H2 => H2 = H' ∧ σ' = [some (.ref p), some (.int d), some (.ref q), some (.ref L), some (.int ((e : Int) + 1)), some (.int (i : Nat)), some (.int (os.getD i 0))], ?_, ⟨_, rfl, _, _, rfl, rfl, rfl, rfl⟩⟩
          rintro σ' H2 ⟨rfl, rfl⟩
          refine ⟨n - (e + 1), by omega, rfl, e + 1, rfl, by omega, rfl, fun k hk => ?_⟩
          by_cases hke : k < e
          · exact hlow2 k hke
          · rw [show k = e by omega]
            exact hlt
        · refine iteFb (decide_eq_false hlt) ?_
          -- it is put down
          refine ⟨_, rfl, _, rfl, q, _, rfl, .inl (SqL.of hq4), _, _, rfl, rfl, _, rfl, iteTb (decide_eq_true (by rw [List.length_map, hol]; omega)) ?_⟩
          refine ⟨_, rfl, .inl ⟨rfl, _, SqL.of hL4⟩, _, rfl, _, rfl, q, _, _, _, rfl, rfl, SqL.of hq4, at_ e he, _, rfl, _, _, rfl, rfl, _, rfl, _, rfl, (by show 2 ≤ sizeLine; decide), fun u hu => ⟨(by show 2 ≤ sizeLine; decide), fun t2 ht2 => ?_⟩⟩
          have s1 := same_new (o := .tup [.int (e : Int), .int (i : Nat)]) hu
          have hu1 : (upd H' u (.tup [.int (e : Int), .int (i : Nat)])) u = some (.tup [.int (e : Int), .int (i : Nat)]) := upd_same
          generalize upd H' u (.tup [.int (e : Int), .int (i : Nat)]) = H5 at ht2 s1 hu1 ⊢
          have s2 := same_new (o := .tup [.int (os.getD e 0 - os.getD i 0), .ref u]) ht2
          have ht21 : (upd H5 t2 (.tup [.int (os.getD e 0 - os.getD i 0), .ref u])) t2 = some (.tup [.int (os.getD e 0 - os.getD i 0), .ref u]) := upd_same
          have hu2 := s2 _ _ hu1
          have s12 := s1.trans s2
          generalize upd H5 t2 (.tup [.int (os.getD e 0 - os.getD i 0), .ref u]) = H6 at ht21 hu2 s12 ⊢
          have hL6 := s12 _ _ hL4
          refine ⟨L, _, _, rfl, rfl, hL6, by rw [List.length_map, tp4.1]; exact small1000 (by omega), ?_⟩
          have nt : ∀ (y : Addr) (xs : List V), H6 y = some (.tup xs) → upd H6 L (.lst (rs.map V.ref ++ [V.ref t2])) y = some (.tup xs) := fun y xs e => by
            rw [upd_ne (ne_of e hL6 (by intro z; cases z))]
            exact e
          refine ⟨e, _, _, rs ++ [t2], fs ++ [(e, i)], rfl, fun b u' e' => ?_, by rw [upd_ne nqL]; exact s12 _ _ hq4, by rw [upd_same, List.map_append]; rfl, ?_, by rw [List.length_append, List.length_singleton]; omega, ⟨?_, ?_, ?_⟩, by omega, low2⟩
          · rw [upd_ne (ne_of_none e' hLH)]
            exact s12 _ _ (S4 _ _ e')
          · exact RchI.snoc ((tp4.kx fun r xs e => s12 r _ e).kx nt) (nt _ _ ht21) (nt _ _ hu2)
          · intro f hf
            rcases List.mem_append.mp hf with hf | hf
            · obtain ⟨a1, a2⟩ := hF.inn f hf
              exact ⟨by omega, a2⟩
            · rw [List.mem_singleton.mp hf]
              refine ⟨by show i < i + 1; omega, by show e < os.length; omega, by show d + os.getD i 0 ≤ os.getD e 0; omega, fun k hk => ?_⟩
              have := hlow2 k hk
              show os.getD k 0 < d + os.getD i 0
              omega
          · refine List.pairwise_append.mpr ⟨hF.srt, List.pairwise_singleton .., fun f hf g hg => ?_⟩
            rw [List.mem_singleton.mp hg]
            exact (hF.inn f hf).1
          · intro l hl e2 he2 h
            by_cases hli : l < i
            · obtain ⟨e', he'⟩ := hF.all l hli e2 he2 h
              exact ⟨e', List.mem_append_left _ he'⟩
            · rw [show l = i by omega]
              exact ⟨e, List.mem_append_right _ (List.mem_singleton.mpr rfl)⟩
      · refine iteFb (decide_eq_false (by omega)) (iteF ?_)
        refine ⟨_, rfl, _, rfl, q, _, rfl, .inl (SqL.of hq4), _, _, rfl, rfl, _, rfl, iteFb (decide_eq_false (by rw [List.length_map, hol]; omega)) ?_⟩
        refine ⟨e, _, _, rs, fs, rfl, S4, hq4, hL4, tp4, by omega, ⟨fun f hf => ?_, hF.srt, fun l hl e2 he2 h => ?_⟩, hen, low2⟩
        · obtain ⟨a1, a2⟩ := hF.inn f hf
          exact ⟨by omega, a2⟩
        · by_cases hli : l < i
          · exact hF.all l hli e2 he2 h
          · exfalso
            rw [show l = i by omega] at h
            have := hlow2 e2 (by omega)
            omega
    · rintro σ H3 ⟨e, v5, v6, rs, fs, rfl, S3, hq3, hL3, tp, hfl, hF, hen, hlow⟩
      rw [List.length_map, hol] at hF hfl
      exact ⟨_, rfl, k L rs fs H3 hLH S3 hfl hL3 tp hF⟩
end
end RS
/-! ### a list of pairs, filtered -/
namespace RS
open PySem L2
theorem sel_filter {α : Type} (xs : List α) (f : α → Bool) (h : α → V) : ∀ i, i ≤ xs.length → selTo (fun j : Nat => (xs[j]?).bind fun c => if f c = true then some (h c) else none) i = ((xs.take i).filter f).map h
  | 0, _ => rfl
  | i + 1, hi => by
    rw [selTo_succ, sel_filter xs f h i (by omega), List.take_add_one, List.filter_append, List.map_append]
    congr 1
    rw [List.getElem?_eq_getElem (by omega)]
    show (if f xs[i] = true then some (h xs[i]) else none).toList = _
    cases e : f xs[i] <;> simp [e]
def selU (f : Pr → Bool) (us : List Addr) (ps : List Pr) : List Addr := ((us.zip ps).filter fun z => f z.2).map fun z => z.1
theorem TupsI.tail {H : Hp} {u : Addr} {us : List Addr} {p : Pr} {ps : List Pr} (t : TupsI H (u :: us) (p :: ps)) : H u = some (.tup [.int p.1, .int p.2]) ∧ TupsI H us ps := by
  obtain ⟨r, e1, e2⟩ := t.2 0 p rfl
  cases (Option.some.inj e1 : u = r)
  exact ⟨e2, Nat.succ.inj t.1, fun j q e => t.2 (j + 1) q e⟩
theorem TupsI.cons {H : Hp} {u : Addr} {us : List Addr} {p : Pr} {ps : List Pr} (h : H u = some (.tup [.int p.1, .int p.2])) (t : TupsI H us ps) : TupsI H (u :: us) (p :: ps) :=
  ⟨congrArg Nat.succ t.1, fun j q e => match j, e with
    | 0, e => ⟨u, rfl, by cases (Option.some.inj e : p = q); exact h⟩
    | j + 1, e => t.2 j q e⟩
theorem TupsI.filter {H : Hp} (f : Pr → Bool) : ∀ {us : List Addr} {ps : List Pr}, TupsI H us ps → TupsI H (selU f us ps) (ps.filter f)
  | [], [], _ => TupsI.nil
  | [], _ :: _, t => nomatch t.1
  | _ :: _, [], t => nomatch t.1
  | u :: us, p :: ps, t => by
    obtain ⟨h1, h2⟩ := t.tail
    have ih := TupsI.filter f h2
    unfold selU at ih ⊢
    rw [List.zip_cons_cons, List.filter_cons, List.filter_cons]
    by_cases h : f p = true
    · rw [if_pos h, if_pos h]
      exact TupsI.cons h1 ih
    · rw [if_neg h, if_neg h]
      exact ih
theorem zip_at {us : List Addr} {ps : List Pr} {i : Nat} {u : Addr} {p : Pr} (h1 : us[i]? = some u) (h2 : ps[i]? = some p) : (us.zip ps)[i]? = some (u, p) := by
  rw [List.getElem?_zip_eq_some]
  exact ⟨h1, h2⟩
section
variable {K : PySem.W.Frag} {a : Addr} {g : TG} {tt : TT} {te : TE} {vs : List Nat} {σ : L2.St} {H1 : Hp} {D : Addr} {Qd : Hp → Prop}
/-- a comprehension that keeps some of a list of pairs -/
theorem lc_tup {us : List Addr} {ps : List Pr} (f : Pr → Bool) (hx : SqL K H1 a (us.map V.ref)) (tp : TupsI H1 us ps) (hD : H1 D = none) (hn : us.length ≤ 100000)
    (hs : ∀ (i : Nat) (u : Addr) (p : Pr) (H : Hp) (Q : Option V → Hp → Prop), ps[i]? = some p → H u = some (.tup [.int p.1, .int p.2]) → Same H1 H → (Q (if f p = true then some (.ref u) else none) H) → g (.ref u) (wipe σ vs) H fun σ2 H2 => wipe σ2 vs = wipe σ vs ∧ tt σ2 H2 fun b H3 =>
      if b = true then te σ2 H3 fun y H4 => Q (some y) H4 else Q none H3)
    (hd : ∀ H, Same H1 H → H D = some (.lst ((selU f us ps).map V.ref)) → TupsI H (selU f us ps) (ps.filter f) → Qd H) :
    ∃ W : Nat → Nat → Hp → Prop, (∃ m, W 0 m (upd H1 D (.lst []))) ∧ ∀ i m H, W i m H →
      ((Itl K a).stop i H ∧ Qd H) ∨ ((Itl K a).go i H ∧ ∃ Nx : Hp → Prop, (∀ H', Nx H' → ∃ m', m' < m ∧ W (i + 1) m' H') ∧ ∀ x H', (Itl K a).yld i H x H' → g x (wipe σ vs) H' fun σ2 H2 => wipe σ2 vs = wipe σ vs ∧ tt σ2 H2 fun b H3 =>
        if b = true then te σ2 H3 fun y H4 => ∃ acc, H4 D = some (.lst acc) ∧ acc.length < sizeLine ∧ Nx (upd H4 D (.lst (acc ++ [y]))) else Nx H3) := by
  have hz : (us.zip ps).length = us.length := by rw [List.length_zip, tp.1, Nat.min_self]
  refine lc_sel (fun j : Nat => ((us.zip ps)[j]?).bind fun c => if f c.2 = true then some (V.ref c.1) else none) hx hD (by rw [List.length_map]; exact hn) (fun i x H Q hi S q => ?_) (fun H S h => hd H S ?_ (tp.filter f |>.same S))
  · rw [List.getElem?_map] at hi
    cases e : us[i]? with
    | none => rw [e] at hi; cases hi
    | some u =>
      rw [e] at hi
      cases hi
      have hlt := (List.getElem?_eq_some_iff.mp e).1
      have hp : ps[i]? = some (ps[i]'(by rw [← tp.1]; exact hlt)) := List.getElem?_eq_getElem _
      obtain ⟨v, e1, e2⟩ := tp.2 i _ hp
      rw [e] at e1
      cases e1
      have hq := q H (Same.refl H)
      simp only [zip_at e hp] at hq
      exact hs i u _ H Q hp (S _ _ e2) S hq
  · rw [h, List.length_map, ← hz, sel_filter (us.zip ps) (fun c => f c.2) (fun c => V.ref c.1) _ (Nat.le_refl _), List.take_length]
    unfold selU
    rw [List.map_map]
    rfl
end
end RS
namespace RS
open PySem L2
/-- which pair stands at a tuple -/
def kOf (H : Hp) : V → Int × Int
  | .ref u => match H u with
    | some (.tup [.int a, .int b]) => (a, b)
    | _ => (0, 0)
  | _ => (0, 0)
theorem kOf_at {H : Hp} {u : Addr} {a b : Int} (h : H u = some (.tup [.int a, .int b])) : kOf H (.ref u) = (a, b) := by
  simp only [kOf, h]
theorem tups_srtd {H : Hp} {us : List Addr} {ps : List Pr} (t : TupsI H us ps) (h : ps.Pairwise (fun p q => p.1 < q.1)) : SrtO.Srtd (ltP (kOf H)) (us.map V.ref) := by
  show (us.map V.ref).Pairwise _
  rw [List.pairwise_iff_getElem]
  intro i j hi hj hij
  have hi1 : i < us.length := by simpa using hi
  have hj1 : j < us.length := by simpa using hj
  have hpi : ps[i]? = some (ps[i]'(by rw [← t.1]; exact hi1)) := List.getElem?_eq_getElem _
  have hpj : ps[j]? = some (ps[j]'(by rw [← t.1]; exact hj1)) := List.getElem?_eq_getElem _
  obtain ⟨u, e1, e2⟩ := t.2 i _ hpi
  obtain ⟨v, e3, e4⟩ := t.2 j _ hpj
  have hlt := List.pairwise_iff_getElem.mp h i j (by rw [← t.1]; exact hi1) (by rw [← t.1]; exact hj1) hij
  rw [List.getElem?_eq_getElem hi1] at e1
  rw [List.getElem?_eq_getElem hj1] at e3
  rw [List.getElem_map, List.getElem_map, Option.some.inj e1, Option.some.inj e3]
  show SrtO.lexB (kOf H (V.ref v)) (kOf H (V.ref u)) = false
  rw [kOf_at e2, kOf_at e4]
  refine SrtO.lexB_no.mpr ?_
  omega
section
variable {P : Program} {w : World} {K : PySem.W.Frag} {mg : Str → Option Value} {base : Heap}
/-! ### shared_attempts, of any tail -/
def spSg (C : Addr) : Sp := fun vs H Q _ => ∃ (p g t o : Addr) (gs : List Int) (tl : Tl) (d : Int), vs = [.ref p, .int d] ∧ RuleAt C H p g t o gs tl ∧ 1 ≤ d ∧ d < 2 ^ 150 ∧
  ∀ q w1 w2 us vs ps H', H q = none → H w1 = none → H w2 = none → w1 ≠ w2 → q ≠ w1 → q ≠ w2 → Same H H' → H' q = some (.tup [.ref w1, .ref w2]) → H' w1 = some (.lst (us.map V.ref)) → H' w2 = some (.lst (vs.map V.ref)) → TupsI H' us (ps.filter (sglB gs tl)) → TupsI H' vs (ps.filter fun p => !sglB gs tl p) → ps.length ≤ 240 → SharedF gs tl d ps → Q (.ref q) H'
def shrN : List Str := ["rule", "distance", "pairs", "first", "difference", "pair"]
theorem scSg : FnScope shrN ["rule", "distance"] (defScope s_shared_attempts) := ⟨rfl, rfl, rfl, by decide +kernel, rfl, by decide +kernel, by decide +kernel⟩
theorem ok_sg {f C fC fR fF : Addr} {fd fdC fdR fdF : FuncData} (F : Fun K "shared_attempts" "shared_attempts" s_shared_attempts f fd) (T : Txt K mg C) (GC : FnOk P w K mg base CX0 2 fC fdC ["distance"] spCkD) (bC : Binds K fdC ["distance"] []) (mC : mg "_check_distance" = some (.ref fC)) (kC : PySem.W.keepIn K (.ref fC) = true)
    (GR : FnOk P w K mg base CX0 7 fR fdR ["rule", "distance"] (spRg C)) (bR : Binds K fdR ["rule", "distance"] []) (mR : mg "_reaching" = some (.ref fR)) (kR : PySem.W.keepIn K (.ref fR) = true)
    (GF : FnOk P w K mg base CX0 1 fF fdF ["self"] (spFRA C)) (bF : Binds K fdF ["self"] []) (mF : Meth K C "first_repeating" fF) : FnOk P w K mg base CX0 8 f fd ["rule", "distance"] (spSg C) := by
  refine F.ok scSg (fun vs H Q E h => ?_) (fun cdv A outer s H vs Q E hr h => ?_)
  · obtain ⟨p, g, t, o, gs, tl, d, rfl, _⟩ := h
    rfl
  · obtain ⟨p, g, t, o, gs, tl, d, rfl, R, h1, h2, k⟩ := h
    have hr1 := hr.mono (show 1 ≤ 7 by decide)
    have hr2 := hr.mono (show 2 ≤ 7 by decide)
    refine ⟨_, (pss_cons (ps_expr (pe_call GC hr2 rfl mC kC bC .nil pass0 (pa_cons (pv 1) pa_nil))) (pss_cons (ps_set (i := 2) scSg.nd rfl (Or.inl rfl) (pe_callB cr_sortedPO (by rfl) T.sorted (by decide +kernel) (pa_cons (pe_lc (own := [("difference", 4), ("pair", 5)]) (g := gTup K 2 (gCons (gName 4) (gCons (gName 5) gNil))) rfl scSg.nd (pi_list (pe_call GR hr rfl mR kR bR .nil pass0 (pa_cons (pv 0) (pa_cons (pv 1) pa_nil)))) (blkOk_by (own := [("difference", 4), ("pair", 5)]) (N := shrN) (sc := defScope s_shared_attempts) (by decide +kernel))
        (fun _ _ _ _ _ => pg_tup rfl (pgs_cons (pg_name (i := 4) scSg.nd rfl (Or.inl rfl)) (pgs_cons (pg_name (i := 5) scSg.nd rfl (Or.inl rfl)) pgs_nil))) (fun _ _ _ _ _ => pts_one (pt_cmpR op_eq (pv 4) (pv 1) (nomark _))) (fun _ _ _ _ _ => pv 5)) pa_nil))) (pss_cons (ps_set (i := 3) scSg.nd rfl (Or.inr rfl) (pe_meth0 (pv 0) T.cl mF GF hr1 bF .nil pass0)) (pss_cons (ps_if (pt_cmpR op_isN (pv 3) pe_non (nomark _)) (pss_one (ps_ret (pe_tup (pa_cons (pv 2) (pa_cons (pe_lst pa_nil) pa_nil))))) pss_nil) (pss_one (ps_ret (pe_tup (pa_cons (pe_lc (own := [("pair", 5)]) (g := gName 5) rfl scSg.nd (pi_list (pv 2)) (blkOk_by (own := [("pair", 5)]) (N := shrN) (sc := (defScope s_shared_attempts)) (by decide +kernel)) (fun _ _ _ _ _ => (pg_name (i := 5) scSg.nd rfl (Or.inl rfl))) (fun _ _ _ _ _ => pts_one (pt_cmpR op_lt (pe_ixTK K (by rfl) (pv 5) pe_int) (pv 3) (nomark _))) (fun _ _ _ _ _ => (pv 5))) (pa_cons (pe_lc (own := [("pair", 5)]) (g := gName 5) rfl scSg.nd (pi_list (pv 2)) (blkOk_by (own := [("pair", 5)]) (N := shrN) (sc := (defScope s_shared_attempts)) (by decide +kernel)) (fun _ _ _ _ _ => (pg_name (i := 5) scSg.nd rfl (Or.inl rfl))) (fun _ _ _ _ _ => pts_one (pt_cmpR op_ge (pe_ixTK K (by rfl) (pv 5) pe_int) (pv 3) (nomark _))) (fun _ _ _ _ _ => (pv 5))) pa_nil))))))))), ?_⟩
    have okG := R.okG
    have okT := R.okT
    refine ⟨_, rfl, d, rfl, h1, ?_⟩
    refine ⟨_, rfl, _, rfl, p, g, t, o, gs, tl, d, rfl, R, h1, h2, fun q rs fs H1 hq S1 hlf hq1 tpR hF => ?_⟩
    have hSh := sharedF_of okG okT hF
    refine ⟨q, rfl, ⟨_, SqL.of hq1⟩, fun D hD => lc_list (a := q) (xs := rs.map V.ref) (fun i H' => Same H1 H' ∧ ∃ us, H' D = some (.lst (us.map V.ref)) ∧ us.length ≤ i ∧ TupsI H' us (selG gs tl d (fs.take i))) ⟨same_new hD, [], upd_same, Nat.le_refl _, TupsI.nil⟩ (fun i H' _ z => SqL.of (z.1 _ _ hq1)) (fun i x H2 hx z => ?_) (fun H2 z => ?_)⟩
    · obtain ⟨S2, us, hus, hul, tp⟩ := z
      have hi := (List.getElem?_eq_some_iff.mp hx).1
      rw [List.length_map] at hi
      have hfi : fs[i]? = some (fs[i]'(by rw [← tpR.1]; exact hi)) := List.getElem?_eq_getElem _
      generalize fs[i]'(by rw [← tpR.1]; exact hi) = fi at hfi
      obtain ⟨tt, u, e1, e2, e3⟩ := tpR.2 i fi hfi
      rw [List.getElem?_map, e1] at hx
      cases hx
      have ht2 := S2 _ _ e2
      have hu2 := S2 _ _ e3
      refine ⟨tt, _, rfl, SqT.of ht2, rfl, _, _, rfl, _, _, rfl, rfl, rfl, ?_⟩
      refine ⟨_, rfl, _, rfl, rfl, _, rfl, ?_⟩
      have esel : selG gs tl d (fs.take (i + 1)) = if off gs tl fi.1 - off gs tl fi.2 = d then selG gs tl d (fs.take i) ++ [toPr fi] else selG gs tl d (fs.take i) := by
        rw [List.take_add_one, hfi]
        exact selG_snoc gs tl d (fs.take i) fi
      by_cases he : off gs tl fi.1 - off gs tl fi.2 = d
      · refine iteTb (decide_eq_true (by rw [he])) ?_
        rw [if_pos he] at esel
        have nt : ∀ (y : Addr) (xs : List V), H2 y = some (.tup xs) → upd H2 D (.lst (us.map V.ref ++ [V.ref u])) y = some (.tup xs) := fun y xs e => by
          rw [upd_ne (ne_of e hus (by intro z; cases z))]
          exact e
        exact ⟨_, rfl, _, hus, by rw [List.length_map]; exact small1000 (by have := tpR.1; omega), same_app hD S2, us ++ [u], by rw [upd_same, List.map_append]; rfl, by rw [List.length_append, List.length_singleton]; omega, by rw [esel]; exact (tp.kx nt).snoc (nt _ _ hu2)⟩
      · refine iteFb (decide_eq_false fun h => he (V.int.inj h)) ?_
        rw [if_neg he] at esel
        exact ⟨S2, us, hus, by omega, by rw [esel]; exact tp⟩
    obtain ⟨S2, us, hus, hul, tp⟩ := z
    rw [List.length_map, tpR.1] at hul
    rw [List.length_map, tpR.1, List.take_length] at tp
    have hps : (selG gs tl d fs).length ≤ 240 := by
      rw [← tp.1]
      omega
    generalize selG gs tl d fs = ps at hSh tp hps
    refine ⟨D, us.map V.ref, kOf H2, rfl, SqL.of hus, fun x hx => ?_, fun ys so hys hst hso => ?_⟩
    · obtain ⟨u, hu, rfl⟩ := List.mem_map.mp hx
      obtain ⟨j, hj, rfl⟩ := List.mem_iff_getElem.mp hu
      have hpj : ps[j]? = some (ps[j]'(by rw [← tp.1]; exact hj)) := List.getElem?_eq_getElem _
      obtain ⟨v, e1, e2⟩ := tp.2 j _ hpj
      rw [List.getElem?_eq_getElem hj] at e1
      cases e1
      exact ⟨_, rfl, by rw [kOf_at e2]; exact e2⟩
    have ey : ys = us.map V.ref := SrtO.stb_uniq (ltP_swo _) hys (tups_srtd tp (hSh.fst okG okT)) hst
    subst ey
    have s3 := same_new (o := .lst (us.map V.ref)) hso
    have hso3 := upd_same (H := H2) (a := so) (o := .lst (us.map V.ref))
    have tp3 := tp.same s3
    have hsoH : H so = none := (S1.trans S2).free hso
    have S3 := (S1.trans S2).trans s3
    generalize (upd H2 so (.lst (us.map V.ref))) = H3 at hso3 tp3 S3 ⊢
    clear s3 hso hst hys tp hus tpR
    have R3 := R.mono S3
    obtain ⟨dx, hob⟩ := R3.ob
    refine ⟨_, rfl, p, dx, _, rfl, hob, flds_no _ _ _ (by decide +kernel) (by decide +kernel) (by decide +kernel), p, g, t, o, gs, tl, rfl, R3, ?_⟩
    by_cases hrep : ∃ m, tl = .rep m
    · obtain ⟨m, rfl⟩ := hrep
      refine ⟨_, rfl, rfl, _, rfl, iteFb rfl ?_⟩
      have hul2 : us.length ≤ 240 := by rw [tp3.1]; exact hps
      refine ⟨_, rfl, so, rfl, ⟨_, SqL.of hso3⟩, fun D1 hD1 => lc_tup (sglB gs (.rep m)) (SqL.of hso3) tp3 hD1 (by omega) (fun i u pp H4 Q4 hp hu S4 q => ?_) (fun H4 S4 hD4 tp4 => ?_)⟩
      · refine ⟨rfl, ?_⟩
        refine ⟨_, rfl, u, _, _, .int pp.2, rfl, rfl, SqT.of hu, atI_nat (j := 1) rfl, _, rfl, _, _, rfl, rfl, _, rfl, ?_⟩
        by_cases hc : pp.2 < ((gs.length - m : Nat) : Int)
        · have q : Q4 (if decide (pp.2 < ((gs.length - m : Nat) : Int)) = true then some (V.ref u) else none) H4 := q
          rw [if_pos (decide_eq_true hc)] at q
          exact iteTb (decide_eq_true hc) ⟨_, rfl, q⟩
        · have q : Q4 (if decide (pp.2 < ((gs.length - m : Nat) : Int)) = true then some (V.ref u) else none) H4 := q
          rw [if_neg (by rw [decide_eq_false hc]; decide)] at q
          exact iteFb (decide_eq_false hc) q
      have hso4 := S4 _ _ hso3
      have tp34 := tp3.same S4
      refine ⟨_, rfl, so, rfl, ⟨_, SqL.of hso4⟩, fun D2 hD2 => lc_tup (fun p => !sglB gs (.rep m) p) (SqL.of hso4) tp34 hD2 (by omega) (fun i u pp H5 Q5 hp hu S5 q => ?_) (fun H5 S5 hD5 tp5 => ?_)⟩
      · refine ⟨rfl, ?_⟩
        refine ⟨_, rfl, u, _, _, .int pp.2, rfl, rfl, SqT.of hu, atI_nat (j := 1) rfl, _, rfl, _, _, rfl, rfl, _, rfl, ?_⟩
        have q : Q5 (if (!decide (pp.2 < ((gs.length - m : Nat) : Int))) = true then some (V.ref u) else none) H5 := q
        by_cases hc : ((gs.length - m : Nat) : Int) ≤ pp.2
        · rw [if_pos (by rw [decide_eq_false (by omega)]; rfl)] at q
          exact iteTb (decide_eq_true hc) ⟨_, rfl, q⟩
        · rw [if_neg (by rw [decide_eq_true (show pp.2 < ((gs.length - m : Nat) : Int) by omega)]; decide)] at q
          exact iteFb (decide_eq_false hc) q
      have hD45 := S5 _ _ hD4
      have tp45 := tp4.same S5
      refine ⟨(by show 2 ≤ sizeLine; decide), fun q9 hq9 => ?_⟩
      have s9 := same_new (o := .tup [.ref D1, .ref D2]) hq9
      have n12 : D1 ≠ D2 := fun z => by rw [← z] at hD2; rw [hD4] at hD2; cases hD2
      have S35 := S4.trans S5
      exact k q9 D1 D2 _ _ ps _ (S3.free (S35.free hq9)) (S3.free hD1) (S3.free (S4.free hD2)) n12 (ne_of_none hD45 hq9).symm (ne_of_none hD5 hq9).symm ((S3.trans S35).trans s9) upd_same (s9 _ _ hD45) (s9 _ _ hD5) (tp45.same s9) (tp5.same s9) hps hSh
    have hnr : ∀ m, tl ≠ .rep m := fun m e => hrep ⟨m, e⟩
    have hfr : frV gs tl = .non := by
      cases tl with
      | rep m => exact absurd rfl (hnr m)
      | fin => rfl
      | times b => rfl
    have hsg : ∀ p, sglB gs tl p = true := fun p => by
      cases tl with
      | rep m => exact absurd rfl (hnr m)
      | fin => rfl
      | times b => rfl
    rw [hfr]
    refine ⟨_, rfl, rfl, _, rfl, iteTb rfl ?_⟩
    refine ⟨_, rfl, (by show 0 ≤ sizeLine; decide), fun e0 he0 => ?_⟩
    have s4 := same_new (o := .lst []) he0
    have he01 : (upd H3 e0 (.lst [])) e0 = some (.lst []) := upd_same
    have nse : so ≠ e0 := ne_of_none hso3 he0
    have hso4 := s4 _ _ hso3
    have tp4 := tp3.same s4
    have he0H := S3.free he0
    have S4 := S3.trans s4
    generalize upd H3 e0 (.lst []) = H4 at he01 hso4 tp4 S4 ⊢
    refine ⟨(by show 2 ≤ sizeLine; decide), fun q9 hq9 => ?_⟩
    have s5 := same_new (o := .tup [.ref so, .ref e0]) hq9
    have f1 : ps.filter (sglB gs tl) = ps := List.filter_eq_self.mpr fun p _ => hsg p
    have f2 : (ps.filter fun p => !sglB gs tl p) = [] := List.filter_eq_nil_iff.mpr fun p _ z => by rw [hsg p] at z; cases z
    refine k q9 so e0 us [] ps _ (S4.free hq9) hsoH he0H nse (ne_of_none hso4 hq9).symm (ne_of_none he01 hq9).symm (S4.trans s5) upd_same (s5 _ _ hso4) (s5 _ _ he01) ?_ ?_ hps hSh
    · rw [f1]
      exact tp4.same s5
    · rw [f2]
      exact TupsI.nil
end
end RS
namespace RS
open PySem L2
/-! ### what the law's turn keeps -/
structure LawAt (C : Addr) (H : Hp) (a L g p g2 t o : Addr) (cs gs : List Int) (tl : Tl) : Prop where
  R : RuleAt C H p g2 t o gs tl
  hL : H L = some (.lst (cs.map V.int))
  hg : H g = some (.lst (gs.map V.int))
  nL : L ≠ a
  ng : g ≠ a
  np : p ≠ a
  n2 : g2 ≠ a
  nt : t ≠ a
  no : o ≠ a
theorem RuleAt.kx {C a : Addr} {H H' : Hp} {p g t o : Addr} {gs : List Int} {tl : Tl} (R : RuleAt C H p g t o gs tl) (h : Kx a H H') (np : p ≠ a) (ng : g ≠ a) (nt : t ≠ a) (no : o ≠ a) : RuleAt C H' p g t o gs tl :=
  ⟨let ⟨dx, e⟩ := R.ob; ⟨dx, h _ _ np e⟩, h _ _ ng R.hg, h _ _ nt R.ht, h _ _ no R.ho, R.okG, R.okT⟩
theorem LawAt.kx {C : Addr} {H H' : Hp} {a L g p g2 t o : Addr} {cs gs : List Int} {tl : Tl} (B : LawAt C H a L g p g2 t o cs gs tl) (h : Kx a H H') : LawAt C H' a L g p g2 t o cs gs tl :=
  ⟨B.R.kx h B.np B.n2 B.nt B.no, h _ _ B.nL B.hL, h _ _ B.ng B.hg, B.nL, B.ng, B.np, B.n2, B.nt, B.no⟩
theorem LawAt.same {C : Addr} {H H' : Hp} {a L g p g2 t o : Addr} {cs gs : List Int} {tl : Tl} (B : LawAt C H a L g p g2 t o cs gs tl) (h : Same H H') : LawAt C H' a L g p g2 t o cs gs tl := B.kx (Kx.of h)
theorem made_same {H : Hp} {p dx : Addr} {o1 o2 : HO} (hp : H p = none) (hd : H dx = none) : Same H (upd (upd H dx o1) p o2) := fun b u e => by
  rw [upd_ne (ne_of_none e hp), upd_ne (ne_of_none e hd)]
  exact e
/-- the law's promise: a list of at most 63 ints is handed in, True comes out -/
def spLaw (K : PySem.W.Frag) : Sp := fun vs H Q _ => ∃ (a : Addr) (ns : List Int), vs = [.ref a] ∧ SqL K H a (ns.map V.int) ∧ ns.length ≤ 63 ∧ ∀ H', Q (.bl true) H'
/-- the cells: the first number (or 0), then some more -/
def cellsOf (n : Nat) (ns : List Int) : List Int := ns.getD 0 0 :: ((ns.drop 1).take (n - 1))
end RS
namespace RS
open PySem L2
/-- a rule none of whose parts is the source -/
structure RK (C : Addr) (H : Hp) (a p g t o : Addr) (gs : List Int) (tl : Tl) : Prop where
  R : RuleAt C H p g t o gs tl
  np : p ≠ a
  ng : g ≠ a
  nt : t ≠ a
  no : o ≠ a
theorem RK.kx {C : Addr} {H H' : Hp} {a p g t o : Addr} {gs : List Int} {tl : Tl} (B : RK C H a p g t o gs tl) (h : Kx a H H') : RK C H' a p g t o gs tl := ⟨B.R.kx h B.np B.ng B.nt B.no, B.np, B.ng, B.nt, B.no⟩
theorem RK.same {C : Addr} {H H' : Hp} {a p g t o : Addr} {gs : List Int} {tl : Tl} (B : RK C H a p g t o gs tl) (h : Same H H') : RK C H' a p g t o gs tl := B.kx (Kx.of h)
end RS
namespace RS
open PySem L2
/-! ### how many numbers have a property -/
def NumOf (P : Int → Prop) (n : Nat) : Prop := ∃ l : List Int, l.Nodup ∧ (∀ d, d ∈ l ↔ P d) ∧ l.length = n
theorem nodup_le : ∀ {l m : List Int}, l.Nodup → (∀ x ∈ l, x ∈ m) → l.length ≤ m.length
  | [], _, _, _ => Nat.zero_le _
  | x :: l, m, h, hs => by
    obtain ⟨h1, h2⟩ := List.nodup_cons.mp h
    have ih := nodup_le (l := l) (m := m.erase x) h2 fun y hy => by
      have hne : y ≠ x := fun e => h1 (e ▸ hy)
      exact (List.mem_erase_of_ne hne).mpr (hs y (List.mem_cons_of_mem _ hy))
    have hm := hs x (List.mem_cons_self ..)
    rw [List.length_erase_of_mem hm] at ih
    have : 0 < m.length := List.length_pos_of_mem hm
    rw [List.length_cons]
    omega
theorem NumOf.one {P : Int → Prop} {n k : Nat} (h : NumOf P n) (g : NumOf P k) : n = k := by
  obtain ⟨l, h1, h2, rfl⟩ := h
  obtain ⟨m, g1, g2, rfl⟩ := g
  exact Nat.le_antisymm (nodup_le h1 fun x hx => (g2 x).mpr ((h2 x).mp hx)) (nodup_le g1 fun x hx => (h2 x).mpr ((g2 x).mp hx))
theorem NumOf.congr {P Q : Int → Prop} {n : Nat} (h : NumOf P n) (e : ∀ d, P d ↔ Q d) : NumOf Q n := by
  obtain ⟨l, h1, h2, h3⟩ := h
  exact ⟨l, h1, fun d => (h2 d).trans (e d), h3⟩
theorem NumOf.nil {P : Int → Prop} (h : ∀ d, ¬ P d) : NumOf P 0 := ⟨[], List.nodup_nil, fun d => ⟨(fun z => by cases z), fun z => absurd z (h d)⟩, rfl⟩
theorem NumOf.add {P Q : Int → Prop} {n k : Nat} (h : NumOf P n) (g : NumOf Q k) (e : ∀ d, P d → Q d → False) : NumOf (fun d => P d ∨ Q d) (n + k) := by
  obtain ⟨l, h1, h2, rfl⟩ := h
  obtain ⟨m, g1, g2, rfl⟩ := g
  exact ⟨l ++ m, List.nodup_append.mpr ⟨h1, g1, fun x hx y hy z => e x ((h2 x).mp hx) (z ▸ (g2 y).mp hy)⟩, fun d => by rw [List.mem_append, h2, g2], List.length_append⟩
theorem NumOf.single (x : Int) : NumOf (fun d => d = x) 1 := ⟨[x], List.nodup_cons.mpr ⟨(fun z => by cases z), List.nodup_nil⟩, fun d => by rw [List.mem_singleton], rfl⟩
/-- those of a list without repetitions -/
theorem NumOf.list {ks : List Int} (h : ks.Nodup) (p : Int → Bool) : NumOf (fun d => d ∈ ks ∧ p d = true) (ks.filter p).length := ⟨ks.filter p, h.sublist List.filter_sublist, fun d => List.mem_filter, rfl⟩
/-- numbered ones -/
theorem NumOf.seq {P : Int → Prop} (f : Nat → Int) (inj : ∀ i j, f i = f j → i = j) {lo n : Nat} (h : ∀ d, P d ↔ ∃ i, lo ≤ i ∧ i < lo + n ∧ d = f i) : NumOf P n := by
  refine ⟨(List.range n).map fun i => f (lo + i), ?_, fun d => ?_, by rw [List.length_map, List.length_range]⟩
  · refine List.pairwise_map.mpr (List.nodup_range.imp ?_)
    intro a b hab e
    have := inj _ _ e
    omega
  · rw [h]
    constructor
    · intro hd
      obtain ⟨i, hi, rfl⟩ := List.mem_map.mp hd
      have := List.mem_range.mp hi
      exact ⟨lo + i, by omega, by omega, rfl⟩
    · rintro ⟨i, h1, h2, rfl⟩
      exact List.mem_map.mpr ⟨i - lo, List.mem_range.mpr (by omega), by rw [show lo + (i - lo) = i by omega]⟩
/-- one less: a number that is there is left out -/
theorem NumOf.drop {P : Int → Prop} {n : Nat} {x : Int} (h : NumOf P n) (hx : P x) : 0 < n ∧ NumOf (fun d => P d ∧ d ≠ x) (n - 1) := by
  obtain ⟨l, h1, h2, rfl⟩ := h
  have hm := (h2 x).mpr hx
  refine ⟨List.length_pos_of_mem hm, l.erase x, h1.erase x, fun d => ?_, List.length_erase_of_mem hm⟩
  rw [h1.mem_erase_iff, h2]
  exact And.comm
/-! ### distances -/
def IsDif (gs : List Int) (tl : Tl) (d : Int) : Prop := ∃ i j : Nat, j < i ∧ VOk gs tl i ∧ off gs tl i - off gs tl j = d
/-- by the first attempts -/
def DifB (gs : List Int) (tl : Tl) (s : Nat) (d : Int) : Prop := ∃ i j : Nat, j < i ∧ i < s ∧ off gs tl i - off gs tl j = d
def NumD (gs : List Int) (tl : Tl) (lim : Int) (n : Nat) : Prop := NumOf (fun d => IsDif gs tl d ∧ d ≤ lim) n
theorem IsDif.pos {gs : List Int} {tl : Tl} (okG : GapsOk gs) (okT : TlOk gs.length tl) {d : Int} (h : IsDif gs tl d) : 1 ≤ d := by
  obtain ⟨i, j, h1, h2, h3⟩ := h
  have := (off_iff okG okT (h2.lt (by omega)) h2).mpr h1
  omega
theorem NumD.zero {gs : List Int} {tl : Tl} (okG : GapsOk gs) (okT : TlOk gs.length tl) {lim : Int} (h : lim ≤ 0) : NumD gs tl lim 0 := NumOf.nil fun d ⟨h1, h2⟩ => by
  have := h1.pos okG okT
  omega
/-- one limit farther -/
theorem NumD.step {gs : List Int} {tl : Tl} {lim : Int} {n k : Nat} (h : NumD gs tl (lim - 1) n) (g : NumD gs tl lim k) : (IsDif gs tl lim → k = n + 1) ∧ (¬ IsDif gs tl lim → k = n) := by
  refine ⟨fun z => ?_, fun z => ?_⟩
  · refine g.one ((NumOf.add h (NumOf.single lim) (fun d a b => by have := a.2; omega)).congr fun d => ?_)
    constructor
    · rintro (⟨a, b⟩ | rfl)
      · exact ⟨a, by omega⟩
      · exact ⟨z, Int.le_refl _⟩
    · rintro ⟨a, b⟩
      by_cases e : d = lim
      · exact .inr e
      · exact .inl ⟨a, by omega⟩
  · refine g.one (h.congr fun d => ?_)
    constructor
    · rintro ⟨a, b⟩
      exact ⟨a, by omega⟩
    · rintro ⟨a, b⟩
      refine ⟨a, ?_⟩
      by_cases e : d = lim
      · exact absurd (e ▸ a) z
      · omega
/-- no distance between -/
theorem NumD.same {gs : List Int} {tl : Tl} {lo hi : Int} {n k : Nat} (h : NumD gs tl lo n) (g : NumD gs tl hi k) (hle : lo ≤ hi) (hno : ∀ d, IsDif gs tl d → lo < d → hi < d) : n = k := by
  refine h.one (g.congr fun d => ?_)
  constructor
  · rintro ⟨a, b⟩
    refine ⟨a, ?_⟩
    rcases Int.lt_or_le lo d with z | z
    · have := hno d a z
      omega
    · exact z
  · rintro ⟨a, b⟩
    exact ⟨a, by omega⟩
/-- the distances at which attempts share a slot -/
theorem SharedF.isDif {gs : List Int} {tl : Tl} (okT : TlOk gs.length tl) {d : Int} {ps : List Pr} (h : SharedF gs tl d ps) : ps = [] ↔ ¬ IsDif gs tl d := by
  constructor
  · rintro rfl ⟨i, j, h1, h2, h3⟩
    obtain ⟨i0, j0, a1, a2, a3, a4⟩ := pair_back okT j i h1 h2
    cases h.all i0 j0 a1 a2 a3 (by omega)
  · intro z
    cases ps with
    | nil => rfl
    | cons p r =>
      obtain ⟨i, j, _, a1, a2, a3, a4⟩ := h.mem p (List.mem_cons_self ..)
      exact absurd ⟨i, j, a1, a2, a4⟩ z
end RS
namespace RS
open PySem L2
/-! ### distances of growing gaps -/
def NumB (gs : List Int) (tl : Tl) (s : Nat) (lim : Int) (n : Nat) : Prop := NumOf (fun d => DifB gs tl s d ∧ d ≤ lim) n
section
variable {gs : List Int} {b : Int} (okG : GapsOk gs) (okT : TlOk gs.length (.times b))
include okG okT
theorem off_ltT {i j : Nat} : off gs (.times b) i < off gs (.times b) j ↔ i < j := off_iff okG okT (fun z => nomatch z) (fun z => nomatch z)
theorem off_leT {i j : Nat} (h : i ≤ j) : off gs (.times b) i ≤ off gs (.times b) j := by
  rcases Nat.lt_or_eq_of_le h with z | z
  · exact Int.le_of_lt ((off_ltT okG okT).mpr z)
  · rw [z]; exact Int.le_refl _
theorem off_injT {i j : Nat} (h : off gs (.times b) i = off gs (.times b) j) : i = j := by
  rcases Nat.lt_trichotomy i j with z | z | z
  · have := (off_ltT okG okT).mpr z; omega
  · exact z
  · have := (off_ltT okG okT).mpr z; omega
/-- the distances that end at an attempt, and which of them is not new -/
theorem NumB.next {n0 s low : Nat} {lim : Int} {n : Nat} (B0 : Bey gs b (preS gs) n0) (hs : n0 ≤ s) (h : NumB gs (.times b) s lim n) (hlow : low < s) (h1 : off gs (.times b) s - off gs (.times b) low ≤ lim) (h2 : ∀ l < low, lim < off gs (.times b) s - off gs (.times b) l)
    {old : Bool} (ho : old = true ↔ ∃ q : Nat, off gs (.times b) q = off gs (.times b) (s - 1) - (off gs (.times b) s - off gs (.times b) (s - 1))) :
    ∃ k, NumB gs (.times b) (s + 1) lim k ∧ (k : Int) = n + ((s : Int) - (low : Int)) - (if old = true then 1 else 0) := by
  have hlo := B0.lo
  have hl := okT.1
  -- all that end at s
  have hE : NumOf (fun d => ∃ l : Nat, low ≤ l ∧ l < s ∧ d = off gs (.times b) s - off gs (.times b) l) (s - low) := by
    refine NumOf.seq (fun l => off gs (.times b) s - off gs (.times b) l) (fun i j e => off_injT okG okT (by have e : off gs (.times b) s - off gs (.times b) i = off gs (.times b) s - off gs (.times b) j := e; omega)) (lo := low) fun d => ?_
    constructor
    · rintro ⟨l, a1, a2, a3⟩
      exact ⟨l, a1, by omega, a3⟩
    · rintro ⟨l, a1, a2, a3⟩
      exact ⟨l, a1, by omega, a3⟩
  -- those that are old
  have hold : ∀ l : Nat, l < s → DifB gs (.times b) s (off gs (.times b) s - off gs (.times b) l) → l = s - 1 ∧ old = true := by
    rintro l hls ⟨q, p, z1, z2, z3⟩
    obtain ⟨e1, e2, e3, e4⟩ := tell_late okG okT B0 (i := l) (j := s) (p := p) (q := q) hls z1 (by omega) hs (fun ⟨_, z⟩ => by omega) (by omega)
    refine ⟨e2, ho.mpr ⟨p, ?_⟩⟩
    subst e3
    rw [e2] at z3
    omega
  have hnew : old = true → DifB gs (.times b) s (off gs (.times b) s - off gs (.times b) (s - 1)) := fun z => by
    obtain ⟨q, hq⟩ := ho.mp z
    have hg := (off_ltT okG okT).mpr (show s - 1 < s by omega)
    have hlt : q < s - 1 := (off_ltT okG okT).mp (by omega)
    exact ⟨s - 1, q, hlt, by omega, by omega⟩
  have hsplit : ∀ d, (DifB gs (.times b) (s + 1) d ∧ d ≤ lim) ↔ ((DifB gs (.times b) s d ∧ d ≤ lim) ∨ ∃ l : Nat, low ≤ l ∧ l < s ∧ d = off gs (.times b) s - off gs (.times b) l) := fun d => by
    constructor
    · rintro ⟨⟨i, j, z1, z2, z3⟩, z4⟩
      by_cases e : i = s
      · subst e
        refine .inr ⟨j, ?_, z1, z3.symm⟩
        rcases Nat.lt_or_ge j low with y | y
        · have := h2 j y
          omega
        · exact y
      · exact .inl ⟨⟨i, j, z1, by omega, z3⟩, z4⟩
    · rintro (⟨⟨i, j, z1, z2, z3⟩, z4⟩ | ⟨l, z1, z2, z3⟩)
      · exact ⟨⟨i, j, z1, by omega, z3⟩, z4⟩
      · have := off_leT okG okT z1
        exact ⟨⟨s, l, z2, by omega, z3.symm⟩, by omega⟩
  cases old with
  | false =>
    refine ⟨n + (s - low), (NumOf.add h hE ?_).congr fun d => (hsplit d).symm, ?_⟩
    · rintro d ⟨z1, _⟩ ⟨l, z3, z4, rfl⟩
      have := (hold l z4 z1).2
      cases this
    · rw [if_neg (by decide)]
      omega
  | true =>
    obtain ⟨hpos, hd⟩ := hE.drop (x := off gs (.times b) s - off gs (.times b) (s - 1)) ⟨s - 1, by omega, by omega, rfl⟩
    refine ⟨n + (s - low - 1), (NumOf.add h hd ?_).congr fun d => (Iff.trans ?_ (hsplit d).symm), ?_⟩
    · rintro d ⟨z1, _⟩ ⟨⟨l, z3, z4, rfl⟩, z5⟩
      have := (hold l z4 z1).1
      subst this
      exact z5 rfl
    · constructor
      · rintro (z | ⟨z, _⟩)
        · exact .inl z
        · exact .inr z
      · rintro (z | z)
        · exact .inl z
        · by_cases e : d = off gs (.times b) s - off gs (.times b) (s - 1)
          · have hls := off_leT okG okT (show low ≤ s - 1 by omega)
            exact .inl ⟨e ▸ hnew rfl, by omega⟩
          · exact .inr ⟨z, e⟩
    · rw [if_pos rfl]
      omega
/-- the first attempts up to a limit have them all -/
theorem NumB.all {N s : Nat} {lim : Int} {n : Nat} (B : Bey gs b lim N) (hs : N - 1 ≤ s) (h : NumB gs (.times b) s lim n) : NumD gs (.times b) lim n := by
  have hlo := B.lo
  refine NumOf.congr h fun d => ?_
  constructor
  · rintro ⟨⟨i, j, z1, z2, z3⟩, z4⟩
    exact ⟨⟨i, j, z1, fun e => (by cases e), z3⟩, z4⟩
  · rintro ⟨⟨i, j, z1, _, z3⟩, z4⟩
    refine ⟨⟨i, j, z1, ?_, z3⟩, z4⟩
    rcases Nat.lt_or_ge i s with y | y
    · exact y
    · exfalso
      have a1 := off_succ okT (n := i - 1) (fun z => nomatch z)
      rw [show i - 1 + 1 = i by omega] at a1
      have a2 := gap_le okG okT (N - 2) (i - 1 - (N - 2)) (by omega)
      rw [show N - 2 + (i - 1 - (N - 2)) = i - 1 by omega] at a2
      have a3 := B.hi
      have a4 := off_leT okG okT (show j ≤ i - 1 by omega)
      omega
/-- the gap before an attempt among those up to the limit -/
theorem Bey.gapl {N s : Nat} {lim : Int} (B : Bey gs b lim N) (h1 : gs.length + 1 ≤ s) (h2 : s + 1 < N) : off gs (.times b) s - off gs (.times b) (s - 1) ≤ lim := by
  have a1 := off_succ okT (n := s - 1) (fun z => nomatch z)
  rw [show s - 1 + 1 = s by omega] at a1
  have := B.le (s - 1) (by omega) (by omega)
  omega
end
end RS
namespace RS
open PySem L2
/-! ### offsets of repeating gaps -/
theorem off_turns {gs : List Int} {m : Nat} (h1 : 1 ≤ m) (h2 : m ≤ gs.length) {i : Nat} (hi : gs.length - m ≤ i) : ∀ z : Nat, off gs (.rep m) (i + m * z) = off gs (.rep m) i + (z : Int) * per gs m
  | 0 => by rw [Nat.mul_zero, Nat.add_zero]; simp
  | z + 1 => by
    have h := off_turns h1 h2 hi z
    have g := off_per h1 h2 (i := i + m * z) (by omega)
    rw [show i + m * (z + 1) = i + m * z + m by rw [Nat.mul_succ]; omega, g, h, Int.natCast_add, Int.add_mul]
    simp
    omega
theorem off_minR {gs : List Int} {m : Nat} (okG : GapsOk gs) (okT : TlOk gs.length (.rep m)) : ∀ n : Nat, (n : Int) ≤ off gs (.rep m) n
  | 0 => by rw [off_low (Nat.zero_le _)]; exact Int.le_refl _
  | n + 1 => by
    have h1 := off_minR okG okT n
    have h2 := off_succ okT (n := n) (fun e => nomatch e)
    have h3 := gap_pos okG okT (n := n) (fun e => nomatch e)
    omega
theorem vokR {gs : List Int} {m i : Nat} : VOk gs (.rep m) i := fun e => nomatch e
theorem off_ltR {gs : List Int} {m : Nat} (okG : GapsOk gs) (okT : TlOk gs.length (.rep m)) {i j : Nat} : off gs (.rep m) i < off gs (.rep m) j ↔ i < j := off_iff okG okT vokR vokR
theorem off_injR {gs : List Int} {m : Nat} (okG : GapsOk gs) (okT : TlOk gs.length (.rep m)) {i j : Nat} (h : off gs (.rep m) i = off gs (.rep m) j) : i = j := by
  rcases Nat.lt_trichotomy i j with z | z | z
  · have := (off_ltR okG okT).mpr z; omega
  · exact z
  · have := (off_ltR okG okT).mpr z; omega
end RS
namespace RS
open PySem L2
/-! ### a dict of whole numbers by whole numbers -/
def kvI (ks : List Int) (lv : Int → Int) : List (Key × V) := ks.map fun r => ((Sum.inl r : Key), V.int (lv r))
theorem kvI_val (lv : Int → Int) (r : Int) : ∀ ks : List Int, valV (kvI ks lv) (Sum.inl r) = if r ∈ ks then some (.int (lv r)) else none
  | [] => rfl
  | x :: ks => by
    have ih := kvI_val lv r ks
    show valV (((Sum.inl x : Key), V.int (lv x)) :: kvI ks lv) (Sum.inl r) = _
    by_cases e : x = r
    · subst e
      rw [valV_pos rfl, if_pos (List.mem_cons_self ..)]
    · rw [valV_neg (fun z => e (Sum.inl.inj z)), ih]
      by_cases h : r ∈ ks
      · rw [if_pos h, if_pos (List.mem_cons_of_mem _ h)]
      · rw [if_neg h, if_neg (fun z => (List.mem_cons.mp z).elim (fun y => e y.symm) h)]
theorem kvI_put (ks : List Int) (lv : Int → Int) (r v : Int) : putK (kvI ks lv) (Sum.inl r) (.int v) = kvI (if r ∈ ks then ks else ks ++ [r]) (fun x => if x = r then v else lv x) := by
  unfold putK
  rw [valV_any, kvI_val]
  by_cases h : r ∈ ks
  · rw [if_pos h, if_pos (show (some (V.int (lv r))).isSome = true from rfl), if_pos h]
    unfold kvI
    rw [List.map_map]
    refine List.map_congr_left fun x _ => ?_
    show (if (Sum.inl x : Key) = Sum.inl r then ((Sum.inl x : Key), V.int v) else ((Sum.inl x : Key), V.int (lv x))) = ((Sum.inl x : Key), V.int (if x = r then v else lv x))
    by_cases e : x = r
    · rw [if_pos (by rw [e]), if_pos e]
    · rw [if_neg (fun z => e (Sum.inl.inj z)), if_neg e]
  · rw [if_neg h, if_neg (by decide), if_neg h]
    unfold kvI
    rw [List.map_append]
    congr 1
    · refine List.map_congr_left fun x hx => ?_
      show _ = ((Sum.inl x : Key), V.int (if x = r then v else lv x))
      rw [if_neg (fun (e : x = r) => h (e ▸ hx))]
    · show [((Sum.inl r : Key), V.int v)] = [((Sum.inl r : Key), V.int (if r = r then v else lv r))]
      rw [if_pos rfl]
theorem kvI_len (ks : List Int) (lv : Int → Int) : (kvI ks lv).length = ks.length := List.length_map ..
/-- the least numbers with a property, by their residues -/
structure MinBy (P : Int) (D : Int → Prop) (ks : List Int) (lv : Int → Int) : Prop where
  nd : ks.Nodup
  wit : ∀ r ∈ ks, D (lv r) ∧ lv r % P = r
  low : ∀ d, D d → d % P ∈ ks ∧ lv (d % P) ≤ d
theorem MinBy.nil (P : Int) {D : Int → Prop} (h : ∀ d, ¬ D d) (lv : Int → Int) : MinBy P D [] lv := ⟨List.nodup_nil, (fun r z => by cases z), fun d z => absurd z (h d)⟩
theorem MinBy.put {P : Int} {D : Int → Prop} {ks : List Int} {lv : Int → Int} (h : MinBy P D ks lv) {x v : Int} (hv : v = x ∨ (x % P ∈ ks ∧ v = lv (x % P))) (h1 : v ≤ x) (h2 : x % P ∈ ks → v ≤ lv (x % P)) :
    MinBy P (fun d => D d ∨ d = x) (if x % P ∈ ks then ks else ks ++ [x % P]) (fun y => if y = x % P then v else lv y) := by
  have hm : ∀ r, r ∈ (if x % P ∈ ks then ks else ks ++ [x % P]) ↔ r ∈ ks ∨ r = x % P := fun r => by
    split
    · rename_i z
      constructor
      · exact .inl
      · rintro (y | rfl)
        · exact y
        · exact z
    · rw [List.mem_append, List.mem_singleton]
  refine ⟨?_, fun r hr => ?_, fun d hd => ?_⟩
  · split
    · exact h.nd
    · rename_i z
      exact List.nodup_append.mpr ⟨h.nd, List.nodup_cons.mpr ⟨(fun y => by cases y), List.nodup_nil⟩, fun a ha b hb e => z (by rw [← List.mem_singleton.mp hb, ← e]; exact ha)⟩
  · by_cases e : r = x % P
    · rw [if_pos e]
      rcases hv with rfl | ⟨z, rfl⟩
      · exact ⟨.inr rfl, e.symm⟩
      · obtain ⟨a, b⟩ := h.wit _ z
        exact ⟨.inl a, by rw [b, e]⟩
    · rw [if_neg e]
      obtain ⟨a, b⟩ := h.wit r (((hm r).mp hr).resolve_right e)
      exact ⟨.inl a, b⟩
  · rw [hm]
    rcases hd with hd | rfl
    · obtain ⟨a, b⟩ := h.low d hd
      refine ⟨.inl a, ?_⟩
      by_cases e : d % P = x % P
      · rw [if_pos e]
        rw [e] at a b
        have := h2 a
        omega
      · rw [if_neg e]
        exact b
    · refine ⟨.inr rfl, ?_⟩
      rw [if_pos rfl]
      exact h1
theorem MinBy.congr {P : Int} {D E : Int → Prop} {ks : List Int} {lv : Int → Int} (h : MinBy P D ks lv) (e : ∀ d, D d ↔ E d) : MinBy P E ks lv := ⟨h.nd, fun r hr => ⟨(e _).mp (h.wit r hr).1, (h.wit r hr).2⟩, fun d hd => h.low d ((e d).mpr hd)⟩
/-! ### distances of repeating gaps -/
def RepDif (gs : List Int) (m : Nat) (d : Int) : Prop := ∃ i j : Nat, j < i ∧ gs.length - m ≤ i ∧ off gs (.rep m) i - off gs (.rep m) j = d
/-- those of the first turn -/
def RepDif0 (gs : List Int) (m : Nat) (d : Int) : Prop := ∃ j k : Nat, j < gs.length ∧ k < m ∧ off gs (.rep m) (max (gs.length - m) (j + 1) + k) - off gs (.rep m) j = d
section
variable {gs : List Int} {m : Nat} (okG : GapsOk gs) (okT : TlOk gs.length (.rep m))
include okG okT
theorem RepDif.up {d : Int} (h : RepDif gs m d) (z : Nat) : RepDif gs m (d + (z : Int) * per gs m) := by
  obtain ⟨i, j, h1, h2, h3⟩ := h
  have e := off_turns okT.1 okT.2 h2 z
  exact ⟨i + m * z, j, by omega, by omega, by omega⟩
theorem RepDif.low {d : Int} (h : RepDif gs m d) : ∃ d0 z : Nat, RepDif0 gs m (d - (z : Int) * per gs m) := by
  have hm1 : 1 ≤ m := okT.1
  have hm2 : m ≤ gs.length := okT.2
  obtain ⟨i, j, h1, h2, h3⟩ := h
  -- the later one in the first turn
  have back : ∀ (j i : Nat), j < i → gs.length - m ≤ i → ∃ i0 j0 : Nat, j0 < i0 ∧ gs.length - m ≤ i0 ∧ j0 < gs.length ∧ off gs (.rep m) i0 - off gs (.rep m) j0 = off gs (.rep m) i - off gs (.rep m) j := by
    intro j
    induction j using Nat.strongRecOn with
    | ind j ih =>
      intro i h1 h2
      by_cases hj : j < gs.length
      · exact ⟨i, j, h1, h2, hj, rfl⟩
      · obtain ⟨i0, j0, a1, a2, a3, a4⟩ := ih (j - m) (by omega) (i - m) (by omega) (by omega)
        have b1 := off_per hm1 hm2 (i := j - m) (by omega)
        have b2 := off_per hm1 hm2 (i := i - m) (by omega)
        rw [show j - m + m = j by omega] at b1
        rw [show i - m + m = i by omega] at b2
        exact ⟨i0, j0, a1, a2, a3, by omega⟩
  obtain ⟨i0, j0, a1, a2, a3, a4⟩ := back j i h1 h2
  have hdm := Nat.div_add_mod (i0 - max (gs.length - m) (j0 + 1)) m
  have hmod := Nat.mod_lt (i0 - max (gs.length - m) (j0 + 1)) (show 0 < m by omega)
  have e := off_turns hm1 hm2 (i := max (gs.length - m) (j0 + 1) + (i0 - max (gs.length - m) (j0 + 1)) % m) (by omega) ((i0 - max (gs.length - m) (j0 + 1)) / m)
  rw [show max (gs.length - m) (j0 + 1) + (i0 - max (gs.length - m) (j0 + 1)) % m + m * ((i0 - max (gs.length - m) (j0 + 1)) / m) = i0 by omega] at e
  exact ⟨0, (i0 - max (gs.length - m) (j0 + 1)) / m, j0, (i0 - max (gs.length - m) (j0 + 1)) % m, a3, hmod, by omega⟩
theorem RepDif0.rep {d : Int} (h : RepDif0 gs m d) : RepDif gs m d := by
  obtain ⟨j, k, h1, h2, h3⟩ := h
  exact ⟨_, j, by omega, by omega, h3⟩
theorem per_posR : 0 < per gs m := by
  have := (per_bd okG okT.1 okT.2).1
  have := okT.1
  omega
/-- by the least ones one knows them all -/
theorem MinBy.rep {ks : List Int} {lv : Int → Int} (h : MinBy (per gs m) (RepDif0 gs m) ks lv) (d : Int) : RepDif gs m d ↔ d % per gs m ∈ ks ∧ lv (d % per gs m) ≤ d := by
  have hp := per_posR okG okT
  constructor
  · intro hd
    obtain ⟨_, z, h0⟩ := hd.low okG okT
    obtain ⟨a, b⟩ := h.low _ h0
    have e : (d - (z : Int) * per gs m) % per gs m = d % per gs m := by
      rw [Int.sub_eq_add_neg, ← Int.neg_mul, Int.add_mul_emod_self_right]
    rw [e] at a b
    have : 0 ≤ (z : Int) * per gs m := Int.mul_nonneg (by omega) (by omega)
    exact ⟨a, by omega⟩
  · rintro ⟨a, b⟩
    obtain ⟨w, e⟩ := h.wit _ a
    have h1 : (d - lv (d % per gs m)) % per gs m = 0 := by
      rw [Int.sub_emod, e, Int.sub_self, Int.zero_emod]
    have h2 := Int.emod_add_mul_ediv (d - lv (d % per gs m)) (per gs m)
    have h3 : 0 ≤ (d - lv (d % per gs m)) / per gs m := Int.ediv_nonneg (by omega) (by omega)
    obtain ⟨z, hz⟩ := Int.eq_ofNat_of_zero_le h3
    have := (w.rep okG okT).up okG okT z
    rw [hz, h1] at h2
    rw [show lv (d % per gs m) + (z : Int) * per gs m = d by rw [Int.mul_comm]; omega] at this
    exact this
end
end RS
namespace RS
open PySem L2
/-! ### counted by residues -/
theorem cnt_one {P : Int} (hP : 0 < P) {a lim : Int} (h : a ≤ lim) : NumOf (fun d => d % P = a % P ∧ a ≤ d ∧ d ≤ lim) (((lim - a) / P).toNat + 1) := by
  have hq : 0 ≤ (lim - a) / P := Int.ediv_nonneg (by omega) (by omega)
  refine NumOf.seq (fun i => a + (i : Int) * P) (fun i j e => ?_) (lo := 0) fun d => ?_
  · have e : a + (i : Int) * P = a + (j : Int) * P := e
    have h1 : (i : Int) * P = (j : Int) * P := by omega
    have := Int.eq_of_mul_eq_mul_right (by omega) h1
    omega
  · constructor
    · rintro ⟨e, h1, h2⟩
      have h3 : (d - a) % P = 0 := by rw [Int.sub_emod, e, Int.sub_self, Int.zero_emod]
      have h4 := Int.emod_add_mul_ediv (d - a) P
      have h5 : 0 ≤ (d - a) / P := Int.ediv_nonneg (by omega) (by omega)
      obtain ⟨z, hz⟩ := Int.eq_ofNat_of_zero_le h5
      rw [hz, h3] at h4
      have h6 : (d - a) / P ≤ (lim - a) / P := Int.ediv_le_ediv hP (by omega)
      refine ⟨z, Nat.zero_le _, by omega, ?_⟩
      show d = a + (z : Int) * P
      rw [Int.mul_comm]
      omega
    · rintro ⟨i, _, h1, rfl⟩
      have h2 : (i : Int) * P ≤ (lim - a) / P * P := Int.mul_le_mul_of_nonneg_right (by omega) (by omega)
      have h3 := Int.ediv_mul_le (lim - a) (show P ≠ 0 by omega)
      have h4 : 0 ≤ (i : Int) * P := Int.mul_nonneg (by omega) (by omega)
      exact ⟨Int.add_mul_emod_self_right .., by omega, by omega⟩
theorem cnt_res {P : Int} (hP : 0 < P) (lv : Int → Int) (lim : Int) : ∀ ks : List Int, ks.Nodup → (∀ r ∈ ks, lv r % P = r) →
    ∃ n : Nat, NumOf (fun d => d % P ∈ ks ∧ lv (d % P) ≤ d ∧ d ≤ lim) n ∧ (n : Int) = ((ks.filter fun r => decide (lv r ≤ lim)).map fun r => (lim - lv r) / P + 1).sum
  | [], _, _ => ⟨0, NumOf.nil fun d h => (by cases h.1), rfl⟩
  | r :: ks, hn, hr => by
    obtain ⟨h1, h2⟩ := List.nodup_cons.mp hn
    obtain ⟨n, hN, e⟩ := cnt_res hP lv lim ks h2 fun x hx => hr x (List.mem_cons_of_mem _ hx)
    have e0 := hr r (List.mem_cons_self ..)
    by_cases hl : lv r ≤ lim
    · have h3 := cnt_one hP hl
      have hq : 0 ≤ (lim - lv r) / P := Int.ediv_nonneg (by omega) (by omega)
      refine ⟨((lim - lv r) / P).toNat + 1 + n, (NumOf.add h3 hN ?_).congr fun d => ?_, ?_⟩
      · rintro d ⟨a, _⟩ ⟨b, _⟩
        rw [a, e0] at b
        exact h1 b
      · constructor
        · rintro (⟨a, b, c⟩ | ⟨a, b, c⟩)
          · rw [e0] at a
            rw [a]
            exact ⟨List.mem_cons_self .., b, c⟩
          · exact ⟨List.mem_cons_of_mem _ a, b, c⟩
        · rintro ⟨a, b, c⟩
          rcases List.mem_cons.mp a with z | z
          · rw [z] at b
            exact .inl ⟨by rw [z, e0], b, c⟩
          · exact .inr ⟨z, b, c⟩
      · rw [List.filter_cons, if_pos (decide_eq_true hl), List.map_cons, List.sum_cons, ← e]
        omega
    · refine ⟨n, hN.congr fun d => ?_, ?_⟩
      · constructor
        · rintro ⟨a, b, c⟩
          exact ⟨List.mem_cons_of_mem _ a, b, c⟩
        · rintro ⟨a, b, c⟩
          rcases List.mem_cons.mp a with z | z
          · rw [z] at b
            omega
          · exact ⟨z, b, c⟩
      · rw [List.filter_cons, if_neg (by rw [decide_eq_false hl]; decide)]
        exact e
section
variable {gs : List Int} {m : Nat} (okG : GapsOk gs) (okT : TlOk gs.length (.rep m))
include okG okT
theorem isDif_rep (d : Int) : IsDif gs (.rep m) d ↔ RepDif gs m d ∨ DifB gs (.rep m) (gs.length - m) d := by
  constructor
  · rintro ⟨i, j, h1, h2, h3⟩
    rcases Nat.lt_or_ge i (gs.length - m) with z | z
    · exact .inr ⟨i, j, h1, z, h3⟩
    · exact .inl ⟨i, j, h1, z, h3⟩
  · rintro (⟨i, j, h1, h2, h3⟩ | ⟨i, j, h1, h2, h3⟩)
    · exact ⟨i, j, h1, vokR, h3⟩
    · exact ⟨i, j, h1, vokR, h3⟩
theorem rep_total {ks : List Int} {lv : Int → Int} (h : MinBy (per gs m) (RepDif0 gs m) ks lv) {lim : Int} {k : Nat} (hk : NumOf (fun d => DifB gs (.rep m) (gs.length - m) d ∧ d ≤ lim ∧ ¬ RepDif gs m d) k) :
    ∃ n : Nat, NumD gs (.rep m) lim (n + k) ∧ (n : Int) = ((ks.filter fun r => decide (lv r ≤ lim)).map fun r => (lim - lv r) / per gs m + 1).sum := by
  obtain ⟨n, hn, e⟩ := cnt_res (per_posR okG okT) lv lim ks h.nd fun r hr => (h.wit r hr).2
  refine ⟨n, (NumOf.add hn hk ?_).congr fun d => ?_, e⟩
  · rintro d ⟨a, b, c⟩ ⟨_, _, z⟩
    exact z ((h.rep okG okT d).mpr ⟨a, b⟩)
  · rw [isDif_rep okG okT, h.rep okG okT]
    constructor
    · rintro (⟨a, b, c⟩ | ⟨a, b, c⟩)
      · exact ⟨.inl ⟨a, b⟩, c⟩
      · exact ⟨.inr a, b⟩
    · rintro ⟨a | a, c⟩
      · exact .inl ⟨a.1, a.2, c⟩
      · by_cases z : d % per gs m ∈ ks ∧ lv (d % per gs m) ≤ d
        · exact .inl ⟨z.1, z.2, c⟩
        · exact .inr ⟨a, c, z⟩
/-- far away each period adds as many -/
theorem rep_turn {X : Int} (hX : off gs (.rep m) gs.length < X) {n0 n1 n2 : Nat} (h0 : NumD gs (.rep m) X n0) (h1 : NumD gs (.rep m) (X + per gs m) n1) (h2 : NumD gs (.rep m) (X + 2 * per gs m) n2) :
    ∃ c : Nat, n1 = n0 + c ∧ n2 = n1 + c ∧ 1 ≤ c ∧ c ≤ gs.length * gs.length := by
  have hp := per_posR okG okT
  have hm1 : 1 ≤ m := okT.1
  have hm2 : m ≤ gs.length := okT.2
  -- behind the first turn
  have up : ∀ d, IsDif gs (.rep m) d → X < d → IsDif gs (.rep m) (d + per gs m) := by
    rintro d ⟨i, j, a1, a2, a3⟩ hd
    have hj : 0 ≤ off gs (.rep m) j := Int.le_trans (by omega) (off_minR okG okT j)
    have hi : gs.length < i := (off_ltR okG okT).mp (by omega)
    have := off_per hm1 hm2 (i := i) (by omega)
    exact ⟨i + m, j, by omega, vokR, by omega⟩
  have down : ∀ d, IsDif gs (.rep m) (d + per gs m) → X < d → IsDif gs (.rep m) d := by
    rintro d ⟨i, j, a1, a2, a3⟩ hd
    have hj : 0 ≤ off gs (.rep m) j := Int.le_trans (by omega) (off_minR okG okT j)
    have hi : gs.length < i := (off_ltR okG okT).mp (by omega)
    have h3 := off_per hm1 hm2 (i := i - m) (by omega)
    rw [show i - m + m = i by omega] at h3
    have hx : 0 ≤ off gs (.rep m) gs.length := Int.le_trans (by omega) (off_minR okG okT gs.length)
    exact ⟨i - m, j, (off_ltR okG okT).mp (by omega), vokR, by omega⟩
  -- those of a turn
  obtain ⟨l0, a1, a2, a3⟩ := h0
  obtain ⟨l1, b1, b2, b3⟩ := h1
  have hc : NumOf (fun d => IsDif gs (.rep m) d ∧ X < d ∧ d ≤ X + per gs m) (l1.filter fun d => decide (X < d)).length :=
    ⟨l1.filter fun d => decide (X < d), b1.sublist List.filter_sublist, fun d => by
      rw [List.mem_filter, b2]
      constructor
      · rintro ⟨⟨x, y⟩, z⟩
        exact ⟨x, of_decide_eq_true z, y⟩
      · rintro ⟨x, y, z⟩
        exact ⟨⟨x, z⟩, decide_eq_true y⟩, rfl⟩
  have e1 : n1 = n0 + (l1.filter fun d => decide (X < d)).length := NumOf.one ⟨l1, b1, b2, b3⟩ ((NumOf.add ⟨l0, a1, a2, a3⟩ hc (fun d x y => by have := x.2; have := y.2.1; omega)).congr fun d => by
    constructor
    · rintro (⟨x, y⟩ | ⟨x, y, z⟩)
      · exact ⟨x, by omega⟩
      · exact ⟨x, z⟩
    · rintro ⟨x, y⟩
      rcases Int.lt_or_le X d with z | z
      · exact .inr ⟨x, z, y⟩
      · exact .inl ⟨x, z⟩)
  obtain ⟨lc, c1, c2, c3⟩ := hc
  have hc2 : NumOf (fun d => IsDif gs (.rep m) d ∧ X + per gs m < d ∧ d ≤ X + 2 * per gs m) lc.length := by
    refine ⟨lc.map fun d => d + per gs m, ?_, fun d => ?_, List.length_map ..⟩
    · refine List.pairwise_map.mpr (List.Pairwise.imp ?_ c1)
      intro x y hxy e
      omega
    · constructor
      · intro hd
        obtain ⟨x, hx, rfl⟩ := List.mem_map.mp hd
        obtain ⟨y1, y2, y3⟩ := (c2 x).mp hx
        exact ⟨up x y1 y2, by omega, by omega⟩
      · rintro ⟨x, y, z⟩
        refine List.mem_map.mpr ⟨d - per gs m, (c2 _).mpr ⟨down _ (by rw [show d - per gs m + per gs m = d by omega]; exact x) (by omega), by omega, by omega⟩, by omega⟩
  have e2 : n2 = n1 + lc.length := NumOf.one h2 ((NumOf.add ⟨l1, b1, b2, b3⟩ hc2 (fun d x y => by have := x.2; have := y.2.1; omega)).congr fun d => by
    constructor
    · rintro (⟨x, y⟩ | ⟨x, y, z⟩)
      · exact ⟨x, by omega⟩
      · exact ⟨x, z⟩
    · rintro ⟨x, y⟩
      rcases Int.lt_or_le (X + per gs m) d with z | z
      · exact .inr ⟨x, z, y⟩
      · exact .inl ⟨x, z⟩)
  refine ⟨lc.length, by omega, e2, ?_, ?_⟩
  · -- a whole number of periods
    have hx : 0 ≤ off gs (.rep m) gs.length := Int.le_trans (by omega) (off_minR okG okT gs.length)
    have h3 : 0 ≤ X / per gs m := Int.ediv_nonneg (by omega) (by omega)
    obtain ⟨z, hz⟩ := Int.eq_ofNat_of_zero_le h3
    have h4 := Int.emod_add_mul_ediv X (per gs m)
    have h5 := Int.emod_nonneg X (show per gs m ≠ 0 by omega)
    have h6 := Int.emod_lt_of_pos X hp
    rw [hz] at h4
    have e3 := off_turns hm1 hm2 (i := gs.length - m) (Nat.le_refl _) (z + 1)
    have hmem : ((z : Int) + 1) * per gs m ∈ lc := (c2 _).mpr ⟨⟨gs.length - m + m * (z + 1), gs.length - m, by
      have : 1 * 1 ≤ m * (z + 1) := Nat.mul_le_mul hm1 (by omega)
      omega, vokR, by rw [e3, show ((z + 1 : Nat) : Int) = (z : Int) + 1 from rfl]; omega⟩, by rw [Int.add_mul, Int.one_mul, Int.mul_comm]; omega, by rw [Int.add_mul, Int.one_mul, Int.mul_comm]; omega⟩
    exact List.length_pos_of_mem hmem
  · -- by the earlier attempt and the place in the turn of the later one
    have key : ∀ d ∈ lc, ∃ j k : Nat, j < gs.length ∧ k < m ∧ ∃ q : Nat, d + off gs (.rep m) j = off gs (.rep m) (gs.length - m + k) + (q : Int) * per gs m := fun d hd => by
      obtain ⟨⟨i, j, x1, x2, x3⟩, x4, x5⟩ := (c2 d).mp hd
      obtain ⟨i0, j0, y1, y2, y3, y4⟩ := pair_back okT j i x1 x2
      have y3 : j0 < gs.length := y3
      have hj : 0 ≤ off gs (.rep m) j0 := Int.le_trans (by omega) (off_minR okG okT j0)
      have hi : gs.length < i0 := (off_ltR okG okT).mp (by omega)
      have hdm := Nat.div_add_mod (i0 - (gs.length - m)) m
      have e3 := off_turns hm1 hm2 (i := gs.length - m + (i0 - (gs.length - m)) % m) (by omega) ((i0 - (gs.length - m)) / m)
      rw [show gs.length - m + (i0 - (gs.length - m)) % m + m * ((i0 - (gs.length - m)) / m) = i0 by omega] at e3
      exact ⟨j0, (i0 - (gs.length - m)) % m, y3, Nat.mod_lt _ (by omega), (i0 - (gs.length - m)) / m, by omega⟩
    classical
    let f : Int → Int := fun d => if h : ∃ j k : Nat, j < gs.length ∧ k < m ∧ ∃ q : Nat, d + off gs (.rep m) j = off gs (.rep m) (gs.length - m + k) + (q : Int) * per gs m then ((h.choose * m + h.choose_spec.choose : Nat) : Int) else 0
    have fs : ∀ d ∈ lc, ∃ j k : Nat, j < gs.length ∧ k < m ∧ (∃ q : Nat, d + off gs (.rep m) j = off gs (.rep m) (gs.length - m + k) + (q : Int) * per gs m) ∧ f d = ((j * m + k : Nat) : Int) := fun d hd => by
      have h := key d hd
      exact ⟨h.choose, h.choose_spec.choose, h.choose_spec.choose_spec.1, h.choose_spec.choose_spec.2.1, h.choose_spec.choose_spec.2.2, dif_pos h⟩
    have inj : (lc.map f).Nodup := by
      refine List.pairwise_map.mpr (List.Pairwise.imp_of_mem ?_ c1)
      intro x y hx hy hne e
      obtain ⟨j, k, z1, z2, ⟨q, z3⟩, z4⟩ := fs x hx
      obtain ⟨j', k', w1, w2, ⟨q', w3⟩, w4⟩ := fs y hy
      have e4 : j * m + k = j' * m + k' := by omega
      have ej : j = j' := by
        have h7 : (j * m + k) / m = j := by rw [Nat.mul_comm, Nat.mul_add_div (by omega), Nat.div_eq_of_lt z2]; omega
        have h8 : (j' * m + k') / m = j' := by rw [Nat.mul_comm, Nat.mul_add_div (by omega), Nat.div_eq_of_lt w2]; omega
        rw [← h7, e4, h8]
      subst ej
      have ek : k = k' := by omega
      subst ek
      obtain ⟨_, x4, x5⟩ := (c2 x).mp hx
      obtain ⟨_, y4, y5⟩ := (c2 y).mp hy
      have e5 : x - y = ((q : Int) - (q' : Int)) * per gs m := by rw [Int.sub_mul]; omega
      have hq : q = q' := by
        rcases Nat.lt_trichotomy q q' with v | v | v
        · have := Int.mul_le_mul_of_nonneg_right (show (q : Int) + 1 ≤ (q' : Int) by omega) (show 0 ≤ per gs m by omega)
          rw [Int.add_mul, Int.one_mul] at this
          rw [Int.sub_mul] at e5
          omega
        · exact v
        · have := Int.mul_le_mul_of_nonneg_right (show (q' : Int) + 1 ≤ (q : Int) by omega) (show 0 ≤ per gs m by omega)
          rw [Int.add_mul, Int.one_mul] at this
          rw [Int.sub_mul] at e5
          omega
      subst hq
      exact hne (by omega)
    have hle := nodup_le inj (m := List.map (fun n : Nat => (n : Int)) (List.range (gs.length * m))) fun y hy => by
      obtain ⟨x, hx, rfl⟩ := List.mem_map.mp hy
      obtain ⟨j, k, z1, z2, _, z4⟩ := fs x hx
      refine List.mem_map.mpr ⟨j * m + k, List.mem_range.mpr ?_, z4.symm⟩
      have : (j + 1) * m ≤ gs.length * m := Nat.mul_le_mul_right _ (by omega)
      rw [Nat.add_mul, Nat.one_mul] at this
      omega
    rw [List.length_map, List.length_map, List.length_range] at hle
    exact Nat.le_trans hle (Nat.mul_le_mul_left _ hm2)
end
end RS
namespace L2
open PySem PySem.Spec PyProof.Rows
/-- what is made here and walked over is locked for good -/
def tFrz (t : TE) : TE := fun σ H Q => t σ H fun x H1 => ∃ d u, x = .ref d ∧ H1 d = some u ∧ Mut (some u) ∧ ∀ od, Q x (upd H1 d (.frz od u))
theorem pe_frz {X : Cx} {e : Expr} {t : TE} (h : PE X e t) : PE X e (tFrz t) := by
  refine ⟨fun pins s σ H Q I hw => ?_⟩
  refine thn (h.run pins s σ H _ I hw) fun v s1 ⟨x, H1, I1, r, d, u, ex, hd, mu, q⟩ => ?_
  obtain ⟨od, I2⟩ := I1.lock hd mu
  exact ⟨x, _, I2, r, q od⟩
end L2
namespace RS
open PySem L2
theorem offL_takeN (gs : List Int) (tl : Tl) {n k : Nat} (h : k ≤ n) : (offL gs tl n).take k = offL gs tl k := by
  unfold offL
  rw [← List.map_take, List.take_range, Nat.min_eq_left h]
section
variable {P : Program} {w : World} {K : PySem.W.Frag} {mg : Str → Option Value} {base : Heap}
/-! ### check_bound, single_offsets -/
def spCb : Sp := fun vs H Q _ => ∃ (s : Str) (v lo : Int), vs = [.str s, .int v, .int lo, .non] ∧ lo ≤ v ∧ Q .non H
def cbN : List Str := ["part", "value", "low", "high"]
theorem scCb : FnScope cbN cbN (defScope s_check_bound) := ⟨rfl, rfl, rfl, by decide +kernel, rfl, by decide +kernel, by decide +kernel⟩
theorem ok_cb {f C fI : Addr} {fd fdI : FuncData} (F : Fun K "check_bound" "check_bound" s_check_bound f fd) (T : Txt K mg C) (GI : FnOk P w K mg base CX0 1 fI fdI ["value"] spIsInt) (bI : Binds K fdI ["value"] []) (mI : mg "is_integer" = some (.ref fI)) (kI : PySem.W.keepIn K (.ref fI) = true) : FnOk P w K mg base CX0 2 f fd ["part", "value", "low", "high"] spCb := by
  refine F.ok scCb (fun vs H Q E h => ?_) (fun cdv A outer s H vs Q E hr h => ?_)
  · obtain ⟨z, v, lo, rfl, _⟩ := h
    rfl
  · obtain ⟨z, v, lo, rfl, hlo, k⟩ := h
    refine ⟨_, (pss_cons (ps_if (pt_not (pt_val (pe_call GI hr rfl mI kI bI .nil pass0 (pa_cons (pv 1) pa_nil)))) (pss_one ps_never) pss_nil) (pss_one (ps_if (PW.pt (pw_or (PW.pt (pw_and (pt_cmpR op_notN (pv 2) pe_non (nomark _)) (pw_and1 (pt_cmpR op_lt (pv 1) (pv 2) (nomark _))))) (pw_or1 (PW.pt (pw_and (pt_cmpR op_notN (pv 3) pe_non (nomark _)) (pw_and1 (pt_cmpR op_gt (pv 1) (pv 3) (nomark _)))))))) (pss_one ps_never) pss_nil))), ?_⟩
    refine ⟨_, rfl, v, rfl, true, rfl, iteF ?_⟩
    refine ⟨_, rfl, rfl, _, rfl, iteTb rfl ?_⟩
    refine ⟨_, rfl, _, rfl, _, _, rfl, rfl, _, rfl, iteFb (decide_eq_false (by omega)) ?_⟩
    exact ⟨_, rfl, rfl, _, rfl, iteFb rfl (iteF k)⟩
def spSo (C : Addr) : Sp := fun vs H Q _ => ∃ (p g t o : Addr) (gs : List Int) (m : Nat), vs = [.ref p] ∧ RuleAt C H p g t o gs (.rep m) ∧ ∀ q H', H q = none → Same H H' → H' q = some (.lst ((offL gs (.rep m) (gs.length - m)).map V.int)) → Q (.ref q) H'
theorem scSo : FnScope ["rule"] ["rule"] (defScope s_single_offsets) := ⟨rfl, rfl, rfl, by decide +kernel, rfl, by decide +kernel, by decide +kernel⟩
theorem ok_so {f C fL fF : Addr} {fd fdL fdF : FuncData} (F : Fun K "single_offsets" "single_offsets" s_single_offsets f fd) (T : Txt K mg C)
    (GL : FnOk P w K mg base CX0 2 fL fdL ["rule"] (spLO C)) (bL : Binds K fdL ["rule"] []) (mL : mg "listed_offsets" = some (.ref fL)) (kL : PySem.W.keepIn K (.ref fL) = true)
    (GF : FnOk P w K mg base CX0 1 fF fdF ["self"] (spFRA C)) (bF : Binds K fdF ["self"] []) (mF : Meth K C "first_repeating" fF) : FnOk P w K mg base CX0 3 f fd ["rule"] (spSo C) := by
  refine F.ok scSo (fun vs H Q E h => ?_) (fun cdv A outer s H vs Q E hr h => ?_)
  · obtain ⟨p, g, t, o, gs, m, rfl, _⟩ := h
    rfl
  · obtain ⟨p, g, t, o, gs, m, rfl, R, k⟩ := h
    have hr1 := hr.mono (show 1 ≤ 2 by decide)
    refine ⟨_, (pss_one (ps_ret (pe_slice sl_list (pe_call GL hr rfl mL kL bL .nil pass0 (pa_cons (pv 0) pa_nil)) po_none (po_some (pe_meth0 (pv 0) T.cl mF GF hr1 bF .nil pass0))))), ?_⟩
    refine ⟨_, rfl, p, g, t, o, gs, .rep m, rfl, R, fun q H1 hq S1 hq1 => ?_⟩
    have R1 := R.mono S1
    obtain ⟨dx, hob⟩ := R1.ob
    have hm2 : m ≤ gs.length := R.okT.2
    rw [offs_offL2 gs (.rep m)] at hq1
    refine ⟨_, rfl, p, dx, _, rfl, hob, flds_no _ _ _ (by decide +kernel) (by decide +kernel) (by decide +kernel), p, g, t, o, gs, .rep m, rfl, R1, ?_⟩
    refine ⟨_, rfl, q, _, rfl, SqL.of hq1, fun l hl => ?_⟩
    refine k l _ (S1.free hl) (S1.trans (same_new hl)) ?_
    rw [upd_same, cut_to, ← List.map_take, offL_takeN _ _ (by omega)]
end
end RS
namespace RS
open PySem L2
section
variable {P : Program} {w : World} {K : PySem.W.Frag} {mg : Str → Option Value} {base : Heap}
/-! ### _least_by_residue -/
def spLb (C : Addr) : Sp := fun vs H Q _ => ∃ (p g t o : Addr) (gs : List Int) (m : Nat), vs = [.ref p] ∧ RuleAt C H p g t o gs (.rep m) ∧ ∀ d ks lv H', H d = none → Same H H' → H' d = some (.dK (kvI ks lv)) → ks.length ≤ 400 → MinBy (per gs m) (RepDif0 gs m) ks lv → Q (.ref d) H'
def lbN : List Str := ["rule", "first", "offsets", "many", "least", "early", "start", "late", "difference", "residue"]
theorem scLb : FnScope lbN ["rule"] (defScope s_least_by_residue) := ⟨rfl, rfl, rfl, by decide +kernel, rfl, by decide +kernel, by decide +kernel⟩
theorem ok_lb {f C fL fF fO fP : Addr} {fd fdL fdF fdO fdP : FuncData} (F : Fun K "_least_by_residue" "_least_by_residue" s_least_by_residue f fd) (T : Txt K mg C)
    (GL : FnOk P w K mg base CX0 2 fL fdL ["rule"] (spLO C)) (bL : Binds K fdL ["rule"] []) (mL : mg "listed_offsets" = some (.ref fL)) (kL : PySem.W.keepIn K (.ref fL) = true)
    (GF : FnOk P w K mg base CX0 1 fF fdF ["self"] (spFRA C)) (bF : Binds K fdF ["self"] []) (mF : Meth K C "first_repeating" fF)
    (GO : FnOk P w K mg base CX0 4 fO fdO ["self", "attempt"] (spOff C)) (bO : Binds K fdO ["self", "attempt"] []) (mO : Meth K C "offset" fO)
    (GP : FnOk P w K mg base CX0 2 fP fdP ["self"] (spPer C)) (bP : Binds K fdP ["self"] []) (mP : Meth K C "period" fP) : FnOk P w K mg base CX0 5 f fd ["rule"] (spLb C) := by
  refine F.ok scLb (fun vs H Q E h => ?_) (fun cdv A outer s H vs Q E hr h => ?_)
  · obtain ⟨p, g, t, o, gs, m, rfl, _⟩ := h
    rfl
  · obtain ⟨p, g, t, o, gs, m, rfl, R, k⟩ := h
    have hr1 := hr.mono (show 1 ≤ 4 by decide)
    have hr2 := hr.mono (show 2 ≤ 4 by decide)
    have hu := hu_of hr
    refine ⟨_, (pss_cons (ps_set (i := 1) scLb.nd rfl (Or.inl rfl) (pe_meth0 (pv 0) T.cl mF GF hr1 bF .nil pass0)) (pss_cons (ps_set (i := 2) scLb.nd rfl (Or.inl rfl) (pe_call GL hr2 rfl mL kL bL .nil pass0 (pa_cons (pv 0) pa_nil))) (pss_cons (ps_set (i := 3) scLb.nd rfl (Or.inl rfl) (pe_op op_sub (pe_op op_sub (pe_callB call_len_seq (by rfl) T.len (by decide +kernel) (pa_cons (pv 2) pa_nil)) pe_int) (pv 1))) (pss_cons (ps_set (i := 4) scLb.nd rfl (Or.inl rfl) pe_dnewK) (pss_cons (ps_for PassesOwn.never rfl (pi_range1 rfl T.range (pa_cons (pe_op op_sub (pe_callB call_len_seq (by rfl) T.len (by decide +kernel) (pa_cons (pv 2) pa_nil)) pe_int) pa_nil)) (pg_name (i := 5) scLb.nd rfl (Or.inl rfl)) (pss_cons (ps_set (i := 6) scLb.nd rfl (Or.inl rfl) (pe_callB (call_max2 rfl) (by rfl) T.max (by decide +kernel) (pa_cons (pv 1) (pa_cons (pe_op op_add (pv 5) pe_int) pa_nil)))) (pss_one (ps_for PassesOwn.never rfl (pi_range2 rfl T.range (pa_cons (pv 6) (pa_cons (pe_op op_add (pv 6) (pv 3)) pa_nil))) (pg_name (i := 7) scLb.nd rfl (Or.inl rfl)) (pss_cons (ps_set (i := 8) scLb.nd rfl (Or.inl rfl) (pe_op op_sub (pe_meth (pv 0) T.cl mO GO hr bO .nil pass0 (pa_cons (pv 7) pa_nil)) (pe_ix ix_list (pv 2) (pv 5) (fun _ _ => rfl)))) (pss_cons (ps_set (i := 9) scLb.nd rfl (Or.inl rfl) (pe_op op_mod (pv 8) (pe_meth0 (pv 0) T.cl mP GP hr2 bP .nil pass0))) (pss_one (ps_dput hu (pv 4) (pv 9) (pe_callB (call_min2 rfl) (by rfl) T.min (by decide +kernel) (pa_cons (pv 8) (pa_cons (pe_dget2 hu (pv 4) (pv 9) (pv 8) ⟨by rfl, by rfl, by rfl, by rfl⟩) pa_nil))) rfl)))))))) (pss_one (ps_ret (pv 4)))))))), ?_⟩
    have okG := R.okG
    have okT := R.okT
    have hm1 : 1 ≤ m := okT.1
    have hm2 : m ≤ gs.length := okT.2
    have hg20 := okG.1
    have nF : (flds g t o).lookup ("first_repeating" : Str) = none := flds_no _ _ _ (by decide +kernel) (by decide +kernel) (by decide +kernel)
    have nO : (flds g t o).lookup ("offset" : Str) = none := flds_no _ _ _ (by decide +kernel) (by decide +kernel) (by decide +kernel)
    have nP : (flds g t o).lookup ("period" : Str) = none := flds_no _ _ _ (by decide +kernel) (by decide +kernel) (by decide +kernel)
    obtain ⟨dx, hob⟩ := R.ob
    refine ⟨_, rfl, p, dx, _, rfl, hob, nF, p, g, t, o, gs, .rep m, rfl, R, ?_⟩
    refine ⟨_, rfl, p, g, t, o, gs, .rep m, rfl, R, fun q H1 hq S1 hq1 => ?_⟩
    rw [offs_offL2 gs (.rep m)] at hq1
    have R1 := R.mono S1
    have em : ((((offL gs (.rep m) (gs.length + 1)).map V.int).length : Nat) : Int) - 1 - ((gs.length - m : Nat) : Int) = (m : Int) := by rw [List.length_map, offL_len]; omega
    refine ⟨_, rfl, q, _, rfl, .inl (SqL.of hq1), _, _, rfl, rfl, _, rfl, _, _, rfl, rfl, ?_⟩
    dsimp only [gName]
    rw [em]
    clear em
    intro d hd
    have hd0 : (upd H1 d (.dK [])) d = some (.dK []) := upd_same
    have S0 : Same H1 (upd H1 d (.dK [])) := same_new hd
    have hn : (((((offL gs (.rep m) (gs.length + 1)).map V.int).length : Nat) : Int) - 1).toNat = gs.length := by rw [List.length_map, offL_len]; omega
    refine ⟨_, rfl, q, _, rfl, .inl (SqL.of (S0 _ _ hq1)), _, _, rfl, rfl, ?_⟩
    refine ⟨_, rfl, by omega, by omega, for_range (lo := 0) (n := (((((offL gs (.rep m) (gs.length + 1)).map V.int).length : Nat) : Int) - 1).toNat) (fun i σ H' => ∃ (v5 v6 v7 v8 v9 : Option V) (ks : List Int) (lv : Int → Int), σ = [some (.ref p), some (.int ((gs.length - m : Nat) : Int)), some (.ref q), some (.int (m : Int)), some (.ref d), v5, v6, v7, v8, v9] ∧ Same H1 H' ∧ H' d = some (.dK (kvI ks lv)) ∧ ks.length ≤ i * m ∧
      MinBy (per gs m) (fun x => ∃ j k : Nat, j < i ∧ k < m ∧ off gs (.rep m) (max (gs.length - m) (j + 1) + k) - off gs (.rep m) j = x) ks lv) ⟨none, none, none, none, none, [], fun _ => 0, rfl, S0, hd0, Nat.zero_le _, MinBy.nil _ (fun x ⟨j, k, z, _⟩ => absurd z (Nat.not_lt_zero _)) _⟩ ?_ ?_⟩
    · rintro i σ H2 hi ⟨v5, v6, v7, v8, v9, ks, lv, rfl, S2, hd2, hkl, hM⟩
      rw [hn] at hi
      dsimp only [gName]
      refine ⟨_, rfl, _, rfl, _, _, rfl, rfl, _, _, rfl, ?_⟩
      obtain ⟨st, est⟩ : ∃ st : Nat, st = max (gs.length - m) (i + 1) := ⟨_, rfl⟩
      have e6 : (if (0 : Int) + (i : Int) + 1 > ((gs.length - m : Nat) : Int) then (0 : Int) + (i : Int) + 1 else ((gs.length - m : Nat) : Int)) = (st : Int) := by
        split <;> omega
      rw [e6]
      clear e6
      have hn2 : ((st : Int) + (m : Int) - (st : Int)).toNat = m := by omega
      refine ⟨_, rfl, _, rfl, _, rfl, _, _, rfl, rfl, _, _, rfl, ⟨by omega, by omega, by omega, by omega⟩, for_range (lo := (st : Int)) (n := ((st : Int) + (m : Int) - (st : Int)).toNat) (fun k2 σ H' => ∃ (v7 v8 v9 : Option V) (ks : List Int) (lv : Int → Int), σ = [some (.ref p), some (.int ((gs.length - m : Nat) : Int)), some (.ref q), some (.int (m : Int)), some (.ref d), some (.int (0 + (i : Int))), some (.int (st : Int)), v7, v8, v9] ∧ Same H1 H' ∧ H' d = some (.dK (kvI ks lv)) ∧ ks.length ≤ i * m + k2 ∧
        MinBy (per gs m) (fun x => (∃ j k : Nat, j < i ∧ k < m ∧ off gs (.rep m) (max (gs.length - m) (j + 1) + k) - off gs (.rep m) j = x) ∨ ∃ k < k2, off gs (.rep m) (st + k) - off gs (.rep m) i = x) ks lv) ⟨v7, v8, v9, ks, lv, rfl, S2, hd2, hkl, hM.congr fun x => ⟨.inl, fun z => z.elim id (fun ⟨k, z, _⟩ => absurd z (Nat.not_lt_zero _))⟩⟩ ?_ ?_⟩
      · rintro k2 σ H3 hk2 ⟨v7, v8, v9, ks, lv, rfl, S3, hd3, hkl, hM⟩
        rw [hn2] at hk2
        dsimp only [gName]
        have R3 := R1.mono S3
        obtain ⟨dx3, hob3⟩ := R3.ob
        refine ⟨_, rfl, p, dx3, _, rfl, hob3, nO, _, rfl, p, g, t, o, gs, .rep m, st + k2, (by rw [Int.natCast_add]; rfl), R3, trivial, fun H4 S4 => ?_⟩
        have S04 := S3.trans S4
        have hd4 := S4 _ _ hd3
        have R4 := R1.mono S04
        obtain ⟨dx4, hob4⟩ := R4.ob
        have hq4 := S04 _ _ hq1
        have hxi : atI ((offL gs (.rep m) (gs.length + 1)).map V.int) (0 + (i : Int)) = some (.int (off gs (.rep m) i)) := by rw [Int.zero_add]; exact atI_nat (by rw [List.getElem?_map, offL_get gs _ (by omega)]; rfl)
        refine ⟨_, rfl, _, rfl, q, _, _, _, rfl, rfl, SqL.of hq4, hxi, _, _, rfl, rfl, ?_⟩
        have hP := per_posR okG okT
        refine ⟨_, rfl, _, rfl, p, dx4, _, rfl, hob4, nP, p, g, t, o, gs, .rep m, rfl, R4, _, _, rfl, rfl, hP, ?_⟩
        obtain ⟨x, ex⟩ : ∃ x, off gs (.rep m) (st + k2) - off gs (.rep m) i = x := ⟨_, rfl⟩
        dsimp only [gName]
        rw [ex]
        refine ⟨_, rfl, _, rfl, d, rfl, .inl ⟨_, .inl hd4⟩, _, rfl, _, rfl, _, DGet.k (k := Sum.inl (x % per gs m)) hd4, ?_⟩
        rw [kvI_val]
        have hfin : ∀ v : Int, (v = x ∨ (x % per gs m ∈ ks ∧ v = lv (x % per gs m))) → v ≤ x → (x % per gs m ∈ ks → v ≤ lv (x % per gs m)) → MinBy (per gs m) (fun y => (∃ j k : Nat, j < i ∧ k < m ∧ off gs (.rep m) (max (gs.length - m) (j + 1) + k) - off gs (.rep m) j = y) ∨ ∃ k < k2 + 1, off gs (.rep m) (st + k) - off gs (.rep m) i = y) (if x % per gs m ∈ ks then ks else ks ++ [x % per gs m]) (fun y => if y = x % per gs m then v else lv y) := fun v a b c => (hM.put a b c).congr fun y => by
          constructor
          · rintro ((z | ⟨k, z1, z2⟩) | rfl)
            · exact .inl z
            · exact .inr ⟨k, by omega, z2⟩
            · exact .inr ⟨k2, by omega, ex⟩
          · rintro (z | ⟨k, z1, z2⟩)
            · exact .inl (.inl z)
            · by_cases e : k = k2
              · subst e
                exact .inr (by omega)
              · exact .inl (.inr ⟨k, by omega, z2⟩)
        have hlen : (if x % per gs m ∈ ks then ks else ks ++ [x % per gs m]).length ≤ i * m + (k2 + 1) := by
          split
          · omega
          · rw [List.length_append, List.length_singleton]
            omega
        have h400 : i * m ≤ 20 * 20 := Nat.mul_le_mul (by omega) (by omega)
        have hput : ∀ v : Int, putK (kvI ks lv) (Sum.inl (x % per gs m)) (.int v) = _ := fun v => kvI_put ks lv (x % per gs m) v
        by_cases h : x % per gs m ∈ ks
        · rw [if_pos h]
          refine ⟨x, lv (x % per gs m), rfl, ?_⟩
          refine ⟨_, rfl, _, rfl, d, _, rfl, DPut.k (k := Sum.inl (x % per gs m)) hd4 (small_line (by rw [kvI_len]; omega)), ?_⟩
          rw [hput]
          refine ⟨_, _, _, _, _, rfl, fun b u e => by rw [upd_ne (ne_of_none e hd)]; exact S04 _ _ e, upd_same, hlen, hfin _ ?_ ?_ ?_⟩
          · split
            · exact .inr ⟨h, rfl⟩
            · exact .inl rfl
          · split <;> omega
          · intro _
            split <;> omega
        · rw [if_neg h]
          refine ⟨x, x, rfl, ?_⟩
          rw [if_neg (by omega)]
          refine ⟨_, rfl, _, rfl, d, _, rfl, DPut.k (k := Sum.inl (x % per gs m)) hd4 (small_line (by rw [kvI_len]; omega)), ?_⟩
          rw [hput]
          exact ⟨_, _, _, _, _, rfl, fun b u e => by rw [upd_ne (ne_of_none e hd)]; exact S04 _ _ e, upd_same, hlen, hfin x (.inl rfl) (Int.le_refl _) (fun z => absurd z h)⟩
      · rintro σ H3 ⟨v7, v8, v9, ks, lv, rfl, S3, hd3, hkl, hM⟩
        rw [hn2] at hkl hM
        refine ⟨_, _, _, _, _, ks, lv, rfl, S3, hd3, by rw [Nat.add_mul]; omega, hM.congr fun x => ?_⟩
        constructor
        · rintro (⟨j, k, z1, z2, z3⟩ | ⟨k, z1, z2⟩)
          · exact ⟨j, k, by omega, z2, z3⟩
          · exact ⟨i, k, by omega, z1, by rw [← est]; exact z2⟩
        · rintro ⟨j, k, z1, z2, z3⟩
          by_cases e : j = i
          · subst e
            exact .inr ⟨k, z2, by rw [est]; exact z3⟩
          · exact .inl ⟨j, k, by omega, z2, z3⟩
    · rintro σ H2 ⟨v5, v6, v7, v8, v9, ks, lv, rfl, S2, hd2, hkl, hM⟩
      rw [hn] at hkl hM
      have h400 : gs.length * m ≤ 20 * 20 := Nat.mul_le_mul hg20 (by omega)
      exact ⟨_, rfl, k d ks lv H2 (S1.free hd) (S1.trans S2) hd2 (by omega) hM⟩
end
end RS
namespace RS
open PySem L2
/-- the keys are the differences -/
theorem GrpAt.keys {H H' : Hp} {d : Addr} {ks : List Int} {as : List Addr} {ad : Int → List Addr} {PS : List Pr} {gs : List Int} {tl : Tl} {n : Nat} (G : GrpAt H H' d ks as ad (offL gs tl n) PS n n 0) (r : Int) : r ∈ ks ↔ DifB gs tl n r := by
  have od : ∀ {k : Nat}, k < n → (offL gs tl n).getD k 0 = off gs tl k := fun hk => offL_getD _ _ hk
  constructor
  · intro h
    have h1 := G.kne r h
    cases e : grp (offL gs tl n) PS r with
    | nil => exact absurd e h1
    | cons p q =>
      have hp : p ∈ grp (offL gs tl n) PS r := by rw [e]; exact List.mem_cons_self ..
      obtain ⟨h2, h3⟩ := List.mem_filter.mp hp
      obtain ⟨⟨i, j, rfl, h4, h5⟩, _⟩ := (G.up.mem p).mp h2
      have h3 := of_decide_eq_true h3
      unfold dif at h3
      simp only [Int.toNat_natCast] at h3
      rw [od h5, od (show i < n by omega)] at h3
      exact ⟨j, i, h4, h5, h3⟩
  · rintro ⟨i, j, h1, h2, h3⟩
    by_cases h : r ∈ ks
    · exact h
    · exfalso
      have h4 := (G.tp r).1
      have h5 : ad r = [] := List.map_eq_nil_iff.mp (G.D.out r h)
      rw [h5] at h4
      have h6 : ((j : Int), (i : Int)) ∈ grp (offL gs tl n) PS r := List.mem_filter.mpr ⟨(G.up.mem _).mpr ⟨⟨j, i, rfl, h1, h2⟩, .inl (show (j : Int) < (n : Int) by omega)⟩, decide_eq_true (by unfold dif; simp only [Int.toNat_natCast]; rw [od h2, od (show j < n by omega)]; exact h3)⟩
      rw [List.length_eq_zero_iff.mp h4.symm] at h6
      cases h6
section
variable {P : Program} {w : World} {K : PySem.W.Frag} {mg : Str → Option Value} {base : Heap}
/-! ### _count_repeating -/
def spCr (C : Addr) : Sp := fun vs H Q _ => ∃ (p g t o : Addr) (gs : List Int) (m : Nat) (lim : Int), vs = [.ref p, .int lim] ∧ RuleAt C H p g t o gs (.rep m) ∧ 0 ≤ lim ∧ lim < 2 ^ 150 ∧ ∀ (n : Nat) H', NumD gs (.rep m) lim n → Same H H' → Q (.int (n : Int)) H'
def crN : List Str := ["rule", "limit", "period", "least", "count", "difference"]
theorem scCr : FnScope crN ["rule", "limit"] (defScope s_count_repeating) := ⟨rfl, rfl, rfl, by decide +kernel, rfl, by decide +kernel, by decide +kernel⟩
theorem ok_cr {f C fP fL fD fS : Addr} {fd fdP fdL fdD fdS : FuncData} (F : Fun K "_count_repeating" "_count_repeating" s_count_repeating f fd) (T : Txt K mg C)
    (GP : FnOk P w K mg base CX0 2 fP fdP ["self"] (spPer C)) (bP : Binds K fdP ["self"] []) (mP : Meth K C "period" fP)
    (GL : FnOk P w K mg base CX0 5 fL fdL ["rule"] (spLb C)) (bL : Binds K fdL ["rule"] []) (mL : mg "_least_by_residue" = some (.ref fL)) (kL : PySem.W.keepIn K (.ref fL) = true)
    (GD : FnOk P w K mg base CX0 1 fD fdD ["offsets"] spPd) (bD : Binds K fdD ["offsets"] []) (mD : mg "_pairs_by_difference" = some (.ref fD)) (kD : PySem.W.keepIn K (.ref fD) = true)
    (GS : FnOk P w K mg base CX0 3 fS fdS ["rule"] (spSo C)) (bS : Binds K fdS ["rule"] []) (mS : mg "single_offsets" = some (.ref fS)) (kS : PySem.W.keepIn K (.ref fS) = true) : FnOk P w K mg base CX0 6 f fd ["rule", "limit"] (spCr C) := by
  refine F.ok scCr (fun vs H Q E h => ?_) (fun cdv A outer s H vs Q E hr h => ?_)
  · obtain ⟨p, g, t, o, gs, m, lim, rfl, _⟩ := h
    rfl
  · obtain ⟨p, g, t, o, gs, m, lim, rfl, R, hl0, hl1, k⟩ := h
    have hr1 := hr.mono (show 1 ≤ 5 by decide)
    have hr2 := hr.mono (show 2 ≤ 5 by decide)
    have hr3 := hr.mono (show 3 ≤ 5 by decide)
    have hu := hu_of hr
    refine ⟨_, (pss_cons (ps_set (i := 2) scCr.nd rfl (Or.inr rfl) (pe_meth0 (pv 0) T.cl mP GP hr2 bP .nil pass0)) (pss_cons (ps_set (i := 3) scCr.nd rfl (Or.inl rfl) (pe_call GL hr rfl mL kL bL .nil pass0 (pa_cons (pv 0) pa_nil))) (pss_cons (ps_set (i := 4) scCr.nd rfl (Or.inl rfl) (pe_callB (cr_sum rfl) (by rfl) T.sum (by decide +kernel) (pa_cons (pe_lock (pe_lc (own := [("difference", 5)]) (g := gName 5) rfl scCr.nd (pi_values (pv 3)) (blkOk_by (own := [("difference", 5)]) (N := crN) (sc := (defScope s_count_repeating)) (by decide +kernel)) (fun _ _ _ _ _ => (pg_name (i := 5) scCr.nd rfl (Or.inl rfl))) (fun _ _ _ _ _ => pts_one (pt_cmpR op_le (pv 5) (pv 1) (nomark _))) (fun _ _ _ _ _ => (pe_op op_add (pe_op op_fdivW (pe_op op_sub (pv 1) (pv 5)) (pv 2)) pe_int)))) pa_nil))) (pss_cons (ps_for PassesOwn.never rfl (pi_keys (pe_frz (pe_call GD hr1 rfl mD kD bD .nil pass0 (pa_cons (pe_call GS hr3 rfl mS kS bS .nil pass0 (pa_cons (pv 0) pa_nil)) pa_nil)))) (pg_name (i := 5) scCr.nd rfl (Or.inl rfl)) (pss_one (ps_if (PW.pt (pw_and (pt_cmpR op_le (pv 5) (pv 1) (nomark _)) (pw_and1 (pt_cmpR op_lt (pv 5) (pe_dget2 hu (pv 3) (pe_op op_mod (pv 5) (pv 2)) (pe_op op_add (pv 5) pe_int) ⟨by rfl, by rfl, by rfl, by rfl⟩) (nomark _))))) (pss_one (ps_set (i := 4) scCr.nd rfl (Or.inl rfl) (pe_op op_add (pv 4) pe_int))) pss_nil))) (pss_one (ps_ret (pv 4))))))), ?_⟩
    have okG := R.okG
    have okT := R.okT
    have hm1 : 1 ≤ m := okT.1
    have hm2 : m ≤ gs.length := okT.2
    have hg20 := okG.1
    have hP := per_posR okG okT
    have nP : (flds g t o).lookup ("period" : Str) = none := flds_no _ _ _ (by decide +kernel) (by decide +kernel) (by decide +kernel)
    obtain ⟨dx, hob⟩ := R.ob
    refine ⟨_, rfl, p, dx, _, rfl, hob, nP, p, g, t, o, gs, .rep m, rfl, R, ?_⟩
    refine ⟨_, rfl, p, g, t, o, gs, m, rfl, R, fun d ks lv H1 hd S1 hd1 hkl hM => ?_⟩
    -- the sum
    refine ⟨d, .dK (kvI ks lv), hd1, trivial, fun od => ?_⟩
    have hdL : (upd H1 d (.frz od (.dK (kvI ks lv)))) d = some (.frz od (.dK (kvI ks lv))) := upd_same
    have kpL : ∀ b u, b ≠ d → H1 b = some u → (upd H1 d (.frz od (.dK (kvI ks lv)))) b = some u := fun b u nb e => by rw [upd_ne nb]; exact e
    generalize upd H1 d (.frz od (.dK (kvI ks lv))) = HL at hdL kpL
    refine ⟨_, rfl, d, od, kvI ks lv, rfl, hdL, fun D hD => lc_it (walk_values (d := d) (o := od) (kvs := kvI ks lv)) (fun i H' => Same HL H' ∧ H' D = some (.lst ((((ks.take i).filter fun r => decide (lv r ≤ lim)).map fun r => (lim - lv r) / per gs m + 1).map V.int))) ⟨same_new hD, upd_same⟩ (fun i H' _ z => z.1 _ _ hdL) (fun i x H4 H5 hi z hy => ?_) (fun H5 z => ?_)⟩
    · obtain ⟨S4, hD4⟩ := z
      obtain ⟨rfl, kk, hkk⟩ := hy
      rw [kvI_len] at hi
      have hri : ks[i]? = some ks[i] := List.getElem?_eq_getElem hi
      generalize ks[i] = r at hri
      have hx : x = .int (lv r) := by
        unfold kvI at hkk
        rw [List.getElem?_map, hri] at hkk
        cases hkk
        rfl
      subst hx
      have hlog : (per gs m).natAbs.log2 < 9000 := by
        have hb := (per_bd okG hm1 hm2).2
        refine (Nat.log2_lt (by omega)).mpr (Nat.lt_of_lt_of_le (m := 2 ^ 45) ?_ (Nat.pow_le_pow_right (by decide) (by decide)))
        have : (2 : Nat) ^ 45 = 35184372088832 := by decide
        omega
      refine ⟨rfl, ?_⟩
      refine ⟨_, rfl, _, rfl, _, _, rfl, rfl, _, rfl, ?_⟩
      have hlen : (((ks.take i).filter fun r => decide (lv r ≤ lim)).map fun r => (lim - lv r) / per gs m + 1).length ≤ 400 := by
        rw [List.length_map]
        exact Nat.le_trans (List.length_filter_le ..) (by rw [List.length_take]; omega)
      by_cases hle : lv r ≤ lim
      · refine iteTb (decide_eq_true hle) ?_
        refine ⟨_, rfl, _, rfl, _, _, rfl, rfl, _, rfl, _, _, rfl, rfl, ⟨hP, hlog⟩, _, _, rfl, rfl, _, hD4, by rw [List.length_map]; exact small1000 (by omega), same_app hD S4, ?_⟩
        rw [upd_same, List.take_add_one, hri, List.filter_append, List.map_append, List.map_append]
        show some (HO.lst (_ ++ [V.int ((lim - lv r) / per gs m + 1)])) = some (HO.lst (_ ++ List.map V.int (List.map (fun r => (lim - lv r) / per gs m + 1) (List.filter (fun r => decide (lv r ≤ lim)) [r]))))
        rw [List.filter_cons, if_pos (decide_eq_true hle)]
        rfl
      · refine iteFb (decide_eq_false hle) ⟨S4, ?_⟩
        rw [hD4, List.take_add_one, hri, List.filter_append]
        show _ = some (HO.lst (List.map V.int (List.map (fun r => (lim - lv r) / per gs m + 1) (_ ++ List.filter (fun r => decide (lv r ≤ lim)) [r]))))
        rw [List.filter_cons, if_neg (by rw [decide_eq_false hle]; decide), List.filter_nil, List.append_nil]
    obtain ⟨S5, hD5⟩ := z
    rw [kvI_len, List.take_length] at hD5
    refine ⟨S5 _ _ hdL, ?_⟩
    have nDd : D ≠ d := fun z => by rw [z, hdL] at hD; cases hD
    have S6 : Same H1 (upd H5 d (.dK (kvI ks lv))) := fun b u e => by
      by_cases nb : b = d
      · subst nb
        rw [upd_same, ← hd1, e]
      · rw [upd_ne nb]
        exact S5 _ _ (kpL _ _ nb e)
    have hD6 : (upd H5 d (.dK (kvI ks lv))) D = some (.lst (((ks.filter fun r => decide (lv r ≤ lim)).map fun r => (lim - lv r) / per gs m + 1).map V.int)) := by rw [upd_ne nDd]; exact hD5
    have hd6 : (upd H5 d (.dK (kvI ks lv))) d = some (.dK (kvI ks lv)) := upd_same
    generalize upd H5 d (.dK (kvI ks lv)) = H6 at S6 hD6 hd6
    clear hD5 S5 hD nDd hdL kpL HL
    refine ⟨D, _, rfl, SqL.of hD6, ?_⟩
    have S06 := S1.trans S6
    have R6 := R.mono S06
    generalize hsum : (((ks.filter fun r => decide (lv r ≤ lim)).map fun r => (lim - lv r) / per gs m + 1)).sum = sm
    -- the single ones
    refine ⟨_, rfl, p, g, t, o, gs, m, rfl, R6, fun so H7 hso S7 hso1 => ?_⟩
    refine ⟨so, offL gs (.rep m) (gs.length - m), rfl, hso1, by rw [offL_len]; omega, fun d2 ks2 as2 ad2 PS H8 hd2 G => ?_⟩
    rw [offL_len] at G
    have hkeys := fun r => G.keys r
    have hk5 : ks2.length ≤ 5000 := by have := G.lk; have := G.lp; omega
    refine ⟨d2, .dK (kvsOf ks2 as2), rfl, G.D.hd, trivial, fun od2 => ?_⟩
    have S8 : Same H6 (upd H8 d2 (.frz od2 (.dK (kvsOf ks2 as2)))) := fun b u e => by
      rw [upd_ne (ne_of_none (S7 _ _ e) hd2)]
      exact G.S _ _ (S7 _ _ e)
    have hd8 : (upd H8 d2 (.frz od2 (.dK (kvsOf ks2 as2)))) d2 = some (.frz od2 (.dK (kvsOf ks2 as2))) := upd_same
    generalize (upd H8 d2 (.frz od2 (.dK (kvsOf ks2 as2)))) = H9 at S8 hd8 ⊢
    refine ⟨d2, od2, rfl, .inl ⟨kvsOf ks2 as2, hd8, for_it (walk_keys (d := d2) (o := od2) (kvs := kvsOf ks2 as2)) (fun i σ H' => ∃ v5, σ = [some (.ref p), some (.int lim), some (.int (per gs m)), some (.ref d), some (.int (sm + ((((ks2.take i).filter fun r => decide (r ≤ lim) && decide (r < if r % per gs m ∈ ks then lv (r % per gs m) else r + 1)).length : Nat) : Int))), v5] ∧ Same H9 H')
      ⟨none, by rw [List.take_zero]; show _ = [_, _, _, _, some (V.int (sm + 0)), none]; rw [Int.add_zero]; rfl, Same.refl _⟩ (fun i σ H' _ z => let ⟨_, _, z⟩ := z; z _ _ hd8) ?_ ?_⟩⟩
    · rintro i x σ Ha Hb hi ⟨v5, rfl, Sa⟩ hy
      obtain ⟨rfl, kk, vv, hkk, rfl⟩ := hy
      rw [kvsOf_len G.D.len] at hi
      have hri : ks2[i]? = some ks2[i] := List.getElem?_eq_getElem hi
      have hai : as2[i]? = some (as2[i]'(by rw [G.D.len]; exact hi)) := List.getElem?_eq_getElem _
      generalize ks2[i] = r at hri
      generalize as2[i]'(by rw [G.D.len]; exact hi) = a at hai
      have ekk : (kvsOf ks2 as2)[i]? = some ((Sum.inl r : Key), V.ref a) := by
        unfold kvsOf
        rw [List.getElem?_zipWith, hri, hai]
      rw [ekk] at hkk
      cases hkk
      have hda := Sa _ _ (S8 _ _ hd6)
      have etk : (ks2.take (i + 1)) = ks2.take i ++ [r] := by rw [List.take_add_one, hri]; rfl
      refine ⟨_, rfl, _, rfl, _, _, rfl, rfl, _, rfl, ?_⟩
      by_cases hle : r ≤ lim
      · refine iteTb (decide_eq_true hle) ?_
        refine ⟨_, rfl, _, rfl, d, rfl, .inl ⟨_, .inl hda⟩, _, rfl, _, rfl, _, _, rfl, rfl, hP, _, rfl, _, _, rfl, rfl, _, DGet.k (k := Sum.inl (r % per gs m)) hda, ?_⟩
        rw [kvI_val]
        have eg : ((if r % per gs m ∈ ks then some (V.int (lv (r % per gs m))) else none).getD (V.int (r + 1))) = V.int (if r % per gs m ∈ ks then lv (r % per gs m) else r + 1) := by
          by_cases h : r % per gs m ∈ ks
          · rw [if_pos h, if_pos h]; rfl
          · rw [if_neg h, if_neg h]; rfl
        rw [eg]
        refine ⟨_, _, rfl, rfl, _, rfl, ?_⟩
        by_cases h2 : r < (if r % per gs m ∈ ks then lv (r % per gs m) else r + 1)
        · refine iteTb (decide_eq_true h2) ?_
          refine ⟨_, rfl, _, _, rfl, rfl, some (.int r), ?_, Sa⟩
          · rw [etk, List.filter_append, List.length_append, List.filter_cons, if_pos (by rw [decide_eq_true hle, decide_eq_true h2]; rfl)]
            show _ = [_, _, _, _, some (V.int (sm + (((_ + 1 : Nat)) : Int))), _]
            rw [Int.natCast_add, ← Int.add_assoc]
            rfl
        · refine iteFb (decide_eq_false h2) ?_
          refine ⟨some (.int r), ?_, Sa⟩
          · rw [etk, List.filter_append, List.length_append, List.filter_cons, if_neg (by rw [decide_eq_true hle, decide_eq_false h2]; decide)]
            rfl
      · refine iteFb (decide_eq_false hle) ?_
        refine ⟨some (.int r), ?_, Sa⟩
        rw [etk, List.filter_append, List.length_append, List.filter_cons, if_neg (by rw [decide_eq_false hle]; intro z; cases z)]
        rfl
    · rintro σ Ha ⟨v5, rfl, Sa⟩
      rw [kvsOf_len G.D.len, List.take_length]
      have hk := (NumOf.list G.D.nk fun r => decide (r ≤ lim) && decide (r < if r % per gs m ∈ ks then lv (r % per gs m) else r + 1)).congr (Q := fun r => DifB gs (.rep m) (gs.length - m) r ∧ r ≤ lim ∧ ¬ RepDif gs m r) fun r => by
        rw [hkeys r, hM.rep okG okT, Bool.and_eq_true, decide_eq_true_iff, decide_eq_true_iff]
        constructor
        · rintro ⟨a, b, c⟩
          refine ⟨a, b, fun ⟨z1, z2⟩ => ?_⟩
          rw [if_pos z1] at c
          omega
        · rintro ⟨a, b, c⟩
          refine ⟨a, b, ?_⟩
          by_cases z1 : r % per gs m ∈ ks
          · rw [if_pos z1]
            rcases Int.lt_or_le r (lv (r % per gs m)) with y | y
            · exact y
            · exact absurd ⟨z1, y⟩ c
          · rw [if_neg z1]
            omega
      obtain ⟨n, hN, en⟩ := rep_total okG okT hM hk
      rw [hsum] at en
      refine ⟨_, rfl, ?_⟩
      have kk := k _ Ha hN (S06.trans (S8.trans Sa))
      rw [Int.natCast_add, en] at kk
      exact kk
end
end RS
namespace RS
open PySem L2
theorem cut_less (xs : List V) (h : 0 < xs.length) : cutV xs none (some (-1)) = xs.take (xs.length - 1) := by
  unfold cutV HT.sIx
  simp
  congr 1
  omega
theorem aaT {gs : List Int} {b x : Int} {r : V} (okG : GapsOk gs) (okT : TlOk gs.length (.times b)) (h : AA gs (.times b) x r) : (∃ n : Nat, r = .int (n : Int) ∧ off gs (.times b) n = x) ∨ (r = .non ∧ ∀ n : Nat, off gs (.times b) n ≠ x) := by
  obtain ⟨a, hF, h⟩ := h
  rcases h with ⟨n, rfl, e, rfl⟩ | ⟨hn, rfl⟩
  · exact .inl ⟨n, rfl, e⟩
  · refine .inr ⟨rfl, fun n e => ?_⟩
    rcases hF with ⟨_, z, _⟩ | ⟨k, rfl, _, h1, h2⟩
    · cases z
    · have h3 : n ≤ k := by
        rcases Nat.lt_or_ge k n with z | z
        · have := (off_ltT okG okT).mpr z
          omega
        · exact z
      have h4 : k ≤ n := by
        rcases Nat.lt_or_ge n k with z | z
        · have h5 := h2 (by omega)
          have h6 := off_leT okG okT (show n ≤ k - 1 by omega)
          omega
        · exact z
      have : k = n := by omega
      subst this
      exact hn k rfl e
section
variable {P : Program} {w : World} {K : PySem.W.Frag} {mg : Str → Option Value} {base : Heap}
/-! ### _count_growing -/
def spCg (C : Addr) : Sp := fun vs H Q _ => ∃ (p g t o : Addr) (gs : List Int) (b lim : Int) (n0 k0 : Nat), vs = [.ref p, .int lim, .int (n0 : Int)] ∧ RuleAt C H p g t o gs (.times b) ∧ 0 ≤ lim ∧ lim < 2 ^ 150 ∧ Bey gs b (preS gs) n0 ∧ NumB gs (.times b) n0 lim k0 ∧ ∀ (n : Nat) H', NumD gs (.times b) lim n → Same H H' → Q (.int ((n : Int) - (k0 : Int))) H'
def cgN : List Str := ["rule", "limit", "first", "offsets", "count", "low", "second", "gap"]
theorem scCg : FnScope cgN ["rule", "limit", "first"] (defScope s_count_growing) := ⟨rfl, rfl, rfl, by decide +kernel, rfl, by decide +kernel, by decide +kernel⟩
theorem ok_cg {f C fB fA : Addr} {fd fdB fdA : FuncData} (F : Fun K "_count_growing" "_count_growing" s_count_growing f fd) (T : Txt K mg C)
    (GB : FnOk P w K mg base CX0 3 fB fdB ["rule", "reach"] (spOb C)) (bB : Binds K fdB ["rule", "reach"] []) (mB : mg "offsets_beyond" = some (.ref fB)) (kB : PySem.W.keepIn K (.ref fB) = true)
    (GA : FnOk P w K mg base CX0 6 fA fdA ["self", "distance"] (spAA C)) (bA : Binds K fdA ["self", "distance"] []) (mA : Meth K C "attempt_at" fA) : FnOk P w K mg base CX0 7 f fd ["rule", "limit", "first"] (spCg C) := by
  refine F.ok scCg (fun vs H Q E h => ?_) (fun cdv A outer s H vs Q E hr h => ?_)
  · obtain ⟨p, g, t, o, gs, b, lim, n0, k0, rfl, _⟩ := h
    rfl
  · obtain ⟨p, g, t, o, gs, b, lim, n0, k0, rfl, R, hl0, hl1, B0, hN0, k⟩ := h
    have hr3 := hr.mono (show 3 ≤ 6 by decide)
    refine ⟨_, (pss_cons (ps_set (i := 3) scCg.nd rfl (Or.inl rfl) (pe_slice sl_list (pe_call GB hr3 rfl mB kB bB .nil pass0 (pa_cons (pv 0) (pa_cons (pv 1) pa_nil))) po_none (po_some (pe_un un_neg pe_int)))) (pss_cons (ps_set (i := 4) scCg.nd rfl (Or.inl rfl) pe_int) (pss_cons (ps_set (i := 5) scCg.nd rfl (Or.inl rfl) pe_int) (pss_cons (ps_for PassesOwn.never rfl (pi_range2 rfl T.range (pa_cons (pv 2) (pa_cons (pe_callB call_len_seq (by rfl) T.len (by decide +kernel) (pa_cons (pv 3) pa_nil)) pa_nil))) (pg_name (i := 6) scCg.nd rfl (Or.inl rfl)) (pss_cons (ps_while PassesOwn.never (pt_cmpR op_gt (pe_op op_sub (pe_ix ix_list (pv 3) (pv 6) (fun _ _ => rfl)) (pe_ix ix_list (pv 3) (pv 5) (fun _ _ => rfl))) (pv 1) (nomark _)) (pss_one (ps_set (i := 5) scCg.nd rfl (Or.inl rfl) (pe_op op_add (pv 5) pe_int)))) (pss_cons (ps_set (i := 4) scCg.nd rfl (Or.inl rfl) (pe_op op_sub (pe_op op_add (pv 4) (pv 6)) (pv 5))) (pss_cons (ps_set (i := 7) scCg.nd rfl (Or.inl rfl) (pe_op op_sub (pe_ix ix_list (pv 3) (pv 6) (fun _ _ => rfl)) (pe_ix ix_list (pv 3) (pe_op op_sub (pv 6) pe_int) (fun _ _ => rfl)))) (pss_one (ps_if (pt_cmpR op_notN (pe_meth (pv 0) T.cl mA GA hr bA .nil pass0 (pa_cons (pe_op op_sub (pe_ix ix_list (pv 3) (pe_op op_sub (pv 6) pe_int) (fun _ _ => rfl)) (pv 7)) pa_nil)) pe_non (nomark _)) (pss_one (ps_set (i := 4) scCg.nd rfl (Or.inl rfl) (pe_op op_sub (pv 4) pe_int))) pss_nil)))))) (pss_one (ps_ret (pv 4))))))), ?_⟩
    have okG := R.okG
    have okT := R.okT
    have hg20 := okG.1
    have nA : (flds g t o).lookup ("attempt_at" : Str) = none := flds_no _ _ _ (by decide +kernel) (by decide +kernel) (by decide +kernel)
    refine ⟨_, rfl, _, rfl, p, g, t, o, gs, .times b, lim, rfl, R, by omega, fun q0 N H1 hq0 S1 hB hq01 => ?_⟩
    have hB : Bey gs b lim N := hB
    have hNlo := hB.lo
    have hN0lo := B0.lo
    have hN067 := Bey.le67 okG okT B0
    have hNhi := hB.bd okG okT (R := 150) hl1 (by decide)
    refine ⟨_, rfl, _, rfl, q0, _, rfl, SqL.of hq01, fun q hq => ?_⟩
    have S2 := S1.trans (same_new (o := .lst (cutV ((offL gs (.times b) N).map V.int) none (some (-1)))) hq)
    have hq1 : (upd H1 q (.lst (cutV ((offL gs (.times b) N).map V.int) none (some (-1))))) q = some (.lst ((offL gs (.times b) (N - 1)).map V.int)) := by
      rw [upd_same, cut_less _ (by rw [List.length_map, offL_len]; omega), List.length_map, offL_len, ← List.map_take, offL_takeN _ _ (by omega)]
    generalize (upd H1 q (.lst (cutV ((offL gs (.times b) N).map V.int) none (some (-1))))) = H2 at S2 hq1 ⊢
    have lenO : (((offL gs (.times b) (N - 1)).map V.int).length) = N - 1 := by rw [List.length_map, offL_len]
    have at_ : ∀ j : Nat, j < N - 1 → atI ((offL gs (.times b) (N - 1)).map V.int) (j : Int) = some (.int (off gs (.times b) j)) := fun j hj => atI_nat (by rw [List.getElem?_map, offL_get gs _ hj]; rfl)
    have hn : ((((N - 1 : Nat)) : Int) - (n0 : Int)).toNat = N - 1 - n0 := by omega
    refine ⟨_, rfl, _, rfl, q, _, rfl, .inl (SqL.of hq1), ?_⟩
    rw [lenO]
    refine ⟨_, _, rfl, ⟨by omega, by omega, by omega, by omega⟩, for_range (lo := (n0 : Int)) (n := ((((N - 1 : Nat)) : Int) - (n0 : Int)).toNat) (fun i σ H' => ∃ (cnt : Int) (low kk : Nat) (v6 v7 : Option V), σ = [some (.ref p), some (.int lim), some (.int (n0 : Int)), some (.ref q), some (.int cnt), some (.int (low : Int)), v6, v7] ∧ Same H2 H' ∧ NumB gs (.times b) (n0 + i) lim kk ∧ (kk : Int) = (k0 : Int) + cnt ∧ low < n0 + i ∧ ∀ l < low, lim < off gs (.times b) (n0 + i) - off gs (.times b) l)
      ⟨0, 0, k0, none, none, rfl, Same.refl _, hN0, by omega, by omega, fun l z => absurd z (Nat.not_lt_zero _)⟩ ?_ ?_⟩
    · rintro i σ H3 hi ⟨cnt, low, kk, v6, v7, rfl, S3, hB1, ek, hlow, hfar⟩
      rw [hn] at hi
      obtain ⟨st, est⟩ : ∃ st : Nat, n0 + i = st := ⟨_, rfl⟩
      rw [est] at hB1 hlow hfar
      have hst1 : st < N - 1 := by omega
      have hst2 : n0 ≤ st := by omega
      dsimp only [gName]
      rw [show (n0 : Int) + (i : Int) = (st : Int) by omega]
      have hgl := hB.gapl okG okT (s := st) (by omega) (by omega)
      have hq3 := S3 _ _ hq1
      -- the first that is near
      refine ⟨fun mm σ H' => H' = H3 ∧ ∃ low : Nat, mm = st - low ∧ low < st ∧ (∀ l < low, lim < off gs (.times b) st - off gs (.times b) l) ∧ σ = [some (.ref p), some (.int lim), some (.int (n0 : Int)), some (.ref q), some (.int cnt), some (.int (low : Int)), some (.int (st : Int)), v7], ⟨st - low, rfl, low, rfl, hlow, hfar, rfl⟩, ?_⟩
      rintro mm σ H' ⟨rfl, low, rfl, hlow, hfar, rfl⟩
      refine ⟨_, rfl, _, rfl, q, _, _, _, rfl, rfl, SqL.of hq3, at_ st (by omega), _, rfl, _, rfl, q, _, _, _, rfl, rfl, SqL.of hq3, at_ low (by omega), _, _, rfl, rfl, _, rfl, _, _, rfl, rfl, _, rfl, ?_⟩
      by_cases hgt : off gs (.times b) st - off gs (.times b) low > lim
      · refine iteTb (decide_eq_true hgt) ?_
        have hlt : low + 1 < st := by
          rcases Nat.lt_or_ge (low + 1) st with z | z
          · exact z
          · rw [show low = st - 1 by omega] at hgt
            omega
        refine ⟨fun σ' H2 => H2 = H' ∧ σ' = [some (.ref p), some (.int lim), some (.int (n0 : Int)), some (.ref q), some (.int cnt), some (.int ((low + 1 : Nat) : Int)), some (.int (st : Int)), v7], ?_, ?_⟩
        · rintro σ' H2 ⟨rfl, rfl⟩
          refine ⟨_, ?_, rfl, low + 1, rfl, hlt, fun l hl => ?_, rfl⟩
          · omega
          · by_cases e : l = low
            · rw [e]
              omega
            · exact hfar l (by omega)
        · exact ⟨_, rfl, _, _, rfl, rfl, rfl, by rw [Int.natCast_add]; rfl⟩
      · refine iteFb (decide_eq_false hgt) ?_
        refine ⟨_, rfl, _, rfl, _, _, rfl, rfl, _, rfl, _, _, rfl, rfl, ?_⟩
        refine ⟨_, rfl, _, rfl, q, _, _, _, rfl, rfl, SqL.of hq3, at_ st (by omega), _, rfl, _, rfl, _, _, rfl, rfl, q, _, _, .int (off gs (.times b) (st - 1)), rfl, rfl, SqL.of hq3, ?_, _, _, rfl, rfl, ?_⟩
        · show atI _ ((st : Int) - 1) = _
          rw [show (st : Int) - 1 = ((st - 1 : Nat) : Int) by omega]
          exact at_ (st - 1) (by omega)
        have R3 := (R.mono S2).mono S3
        obtain ⟨dx, hob⟩ := R3.ob
        have hup : off gs (.times b) (st - 1) - (off gs (.times b) st - off gs (.times b) (st - 1)) ≤ off gs (.times b) 1000 := by
          have a1 := off_leT okG okT (show st - 1 ≤ st by omega)
          have a2 := off_leT okG okT (show st - 1 ≤ 1000 by omega)
          omega
        refine ⟨_, rfl, p, dx, _, rfl, hob, nA, _, rfl, _, rfl, _, _, rfl, rfl, q, _, _, .int (off gs (.times b) (st - 1)), rfl, rfl, SqL.of hq3, ?_, _, rfl, _, _, rfl, rfl, p, g, t, o, gs, .times b, off gs (.times b) (st - 1) - (off gs (.times b) st - off gs (.times b) (st - 1)), rfl, R3, hup, fun r H4 S4 hAA => ?_⟩
        · show atI _ ((st : Int) - 1) = _
          rw [show (st : Int) - 1 = ((st - 1 : Nat) : Int) by omega]
          exact at_ (st - 1) (by omega)
        have hle : off gs (.times b) st - off gs (.times b) low ≤ lim := by omega
        have hnext : ∀ l < low, lim < off gs (.times b) (n0 + (i + 1)) - off gs (.times b) l := fun l hl => by
          have a1 := off_leT okG okT (show st ≤ n0 + (i + 1) by omega)
          have a2 := hfar l hl
          omega
        have e1 : n0 + (i + 1) = st + 1 := by omega
        rcases aaT okG okT hAA with ⟨n, rfl, hx⟩ | ⟨rfl, hx⟩
        · obtain ⟨k2, hk2, ek2⟩ := NumB.next okG okT B0 hst2 hB1 hlow hle hfar (old := true) ⟨fun _ => ⟨n, hx⟩, fun _ => rfl⟩
          rw [if_pos rfl] at ek2
          refine ⟨rfl, _, rfl, iteTb rfl ?_⟩
          refine ⟨_, rfl, _, _, rfl, rfl, ?_⟩
          exact ⟨_, low, k2, _, _, rfl, S3.trans S4, e1 ▸ hk2, by omega, by omega, hnext⟩
        · obtain ⟨k2, hk2, ek2⟩ := NumB.next okG okT B0 hst2 hB1 hlow hle hfar (old := false) ⟨(fun z => by cases z), fun ⟨n, z⟩ => absurd z (hx n)⟩
          rw [if_neg (by decide)] at ek2
          refine ⟨rfl, _, rfl, iteFb rfl ?_⟩
          exact ⟨_, low, k2, _, _, rfl, S3.trans S4, e1 ▸ hk2, by omega, by omega, hnext⟩
    · rintro σ H3 ⟨cnt, low, kk, v6, v7, rfl, S3, hB1, ek, _⟩
      rw [hn] at hB1
      refine ⟨_, rfl, ?_⟩
      have := k kk H3 (hB1.all okG okT hB (by omega)) (S2.trans S3)
      rw [show cnt = (kk : Int) - (k0 : Int) by omega]
      exact this
end
end RS
namespace RS
open PySem L2
section
variable {P : Program} {w : World} {K : PySem.W.Frag} {mg : Str → Option Value} {base : Heap}
/-! ### count_distances -/
def spCd (C : Addr) : Sp := fun vs H Q _ => ∃ (p g t o : Addr) (gs : List Int) (tl : Tl) (lim : Int), vs = [.ref p, .int lim] ∧ RuleAt C H p g t o gs tl ∧ 0 ≤ lim ∧ lim < 2 ^ 150 ∧ ∀ (n : Nat) H', NumD gs tl lim n → Same H H' → Q (.int (n : Int)) H'
def cdN : List Str := ["rule", "limit", "offsets", "count", "difference"]
theorem scCd : FnScope cdN ["rule", "limit"] (defScope s_count_distances) := ⟨rfl, rfl, rfl, by decide +kernel, rfl, by decide +kernel, by decide +kernel⟩
theorem ok_cd {f C fC fF fR fO fD fT fG : Addr} {fd fdC fdF fdR fdO fdD fdT fdG : FuncData} (F : Fun K "count_distances" "count_distances" s_count_distances f fd) (T : Txt K mg C)
    (GC : FnOk P w K mg base CX0 2 fC fdC ["part", "value", "low", "high"] spCb) (bC : Binds K fdC ["part", "value", "low", "high"] []) (mC : mg "check_bound" = some (.ref fC)) (kC : PySem.W.keepIn K (.ref fC) = true)
    (GF : FnOk P w K mg base CX0 1 fF fdF ["self"] (spFRA C)) (bF : Binds K fdF ["self"] []) (mF : Meth K C "first_repeating" fF)
    (GR : FnOk P w K mg base CX0 6 fR fdR ["rule", "limit"] (spCr C)) (bR : Binds K fdR ["rule", "limit"] []) (mR : mg "_count_repeating" = some (.ref fR)) (kR : PySem.W.keepIn K (.ref fR) = true)
    (GO : FnOk P w K mg base CX0 5 fO fdO ["rule"] (spTl2 C)) (bO : Binds K fdO ["rule"] []) (mO : mg "_telling_offsets" = some (.ref fO)) (kO : PySem.W.keepIn K (.ref fO) = true)
    (GD : FnOk P w K mg base CX0 1 fD fdD ["offsets"] spPd) (bD : Binds K fdD ["offsets"] []) (mD : mg "_pairs_by_difference" = some (.ref fD)) (kD : PySem.W.keepIn K (.ref fD) = true)
    (GT : FnOk P w K mg base CX0 1 fT fdT ["self"] (spTail C)) (bT : Binds K fdT ["self"] []) (mT : Meth K C "tail" fT)
    (GG : FnOk P w K mg base CX0 7 fG fdG ["rule", "limit", "first"] (spCg C)) (bG : Binds K fdG ["rule", "limit", "first"] []) (mG : mg "_count_growing" = some (.ref fG)) (kG : PySem.W.keepIn K (.ref fG) = true) : FnOk P w K mg base CX0 8 f fd ["rule", "limit"] (spCd C) := by
  refine F.ok scCd (fun vs H Q E h => ?_) (fun cdv A outer s H vs Q E hr h => ?_)
  · obtain ⟨p, g, t, o, gs, tl, lim, rfl, _⟩ := h
    rfl
  · obtain ⟨p, g, t, o, gs, tl, lim, rfl, R, hl0, hl1, k⟩ := h
    have hr1 := hr.mono (show 1 ≤ 7 by decide)
    have hr2 := hr.mono (show 2 ≤ 7 by decide)
    have hr5 := hr.mono (show 5 ≤ 7 by decide)
    have hr6 := hr.mono (show 6 ≤ 7 by decide)
    refine ⟨_, (pss_cons (ps_expr (pe_call GC hr2 rfl mC kC bC .nil pass0 (pa_cons pe_str (pa_cons (pv 1) (pa_cons pe_int (pa_cons pe_non pa_nil)))))) (pss_cons (ps_if (pt_cmpR op_notN (pe_meth0 (pv 0) T.cl mF GF hr1 bF .nil pass0) pe_non (nomark _)) (pss_one (ps_ret (pe_call GR hr6 rfl mR kR bR .nil pass0 (pa_cons (pv 0) (pa_cons (pv 1) pa_nil))))) pss_nil) (pss_cons (ps_set (i := 2) scCd.nd rfl (Or.inl rfl) (pe_call GO hr5 rfl mO kO bO .nil pass0 (pa_cons (pv 0) pa_nil))) (pss_cons (ps_set (i := 3) scCd.nd rfl (Or.inl rfl) (pe_callB call_len_seq (by rfl) T.len (by decide +kernel) (pa_cons (pe_lc (own := [("difference", 4)]) (g := gName 4) rfl scCd.nd (pi_keys (pe_frz (pe_call GD hr1 rfl mD kD bD .nil pass0 (pa_cons (pv 2) pa_nil)))) (blkOk_by (own := [("difference", 4)]) (N := cdN) (sc := (defScope s_count_distances)) (by decide +kernel)) (fun _ _ _ _ _ => (pg_name (i := 4) scCd.nd rfl (Or.inl rfl))) (fun _ _ _ _ _ => pts_one (pt_cmpR op_le (pv 4) (pv 1) (nomark _))) (fun _ _ _ _ _ => (pv 4))) pa_nil))) (pss_cons (ps_if (pt_cmpR op_eq (pe_ix ix_tup (pe_meth0 (pv 0) T.cl mT GT hr1 bT .nil pass0) pe_int (fun _ _ => rfl)) pe_str (nomark _)) (pss_one (ps_ret (pe_op op_add (pv 3) (pe_call GG hr rfl mG kG bG .nil pass0 (pa_cons (pv 0) (pa_cons (pv 1) (pa_cons (pe_callB call_len_seq (by rfl) T.len (by decide +kernel) (pa_cons (pv 2) pa_nil)) pa_nil))))))) pss_nil) (pss_one (ps_ret (pv 3)))))))), ?_⟩
    have okG := R.okG
    have okT := R.okT
    have hg20 := okG.1
    have nF : (flds g t o).lookup ("first_repeating" : Str) = none := flds_no _ _ _ (by decide +kernel) (by decide +kernel) (by decide +kernel)
    have nT : (flds g t o).lookup ("tail" : Str) = none := flds_no _ _ _ (by decide +kernel) (by decide +kernel) (by decide +kernel)
    obtain ⟨dx, hob⟩ := R.ob
    refine ⟨_, rfl, _, lim, 0, rfl, hl0, ?_⟩
    refine ⟨_, rfl, p, dx, _, rfl, hob, nF, p, g, t, o, gs, tl, rfl, R, ?_⟩
    by_cases hrep : ∃ m, tl = .rep m
    · obtain ⟨m, rfl⟩ := hrep
      refine ⟨rfl, _, rfl, iteTb rfl ?_⟩
      exact ⟨_, rfl, _, rfl, p, g, t, o, gs, m, lim, rfl, R, hl0, hl1, k⟩
    have hfr : frV gs tl = .non := by
      cases tl with
      | rep m => exact absurd ⟨m, rfl⟩ hrep
      | fin => rfl
      | times b => rfl
    rw [hfr]
    refine ⟨rfl, _, rfl, iteFb rfl ?_⟩
    refine ⟨_, rfl, p, g, t, o, gs, tl, rfl, R, fun q n H1 hq S1 hT hq1 => ?_⟩
    have hn70 := TellN.le70 okG okT hT
    refine ⟨_, rfl, q, offL gs tl n, rfl, hq1, by rw [offL_len]; exact hn70, fun d ks as ad PS H2 hd G => ?_⟩
    rw [offL_len] at G
    have hkeys := fun r => G.keys r
    have hk5 : ks.length ≤ 5000 := by have := G.lk; have := G.lp; omega
    refine ⟨d, .dK (kvsOf ks as), rfl, G.D.hd, trivial, fun od => ?_⟩
    have S2 : Same H1 (upd H2 d (.frz od (.dK (kvsOf ks as)))) := fun b u e => by
      rw [upd_ne (ne_of_none e hd)]
      exact G.S _ _ e
    have hd2 : (upd H2 d (.frz od (.dK (kvsOf ks as)))) d = some (.frz od (.dK (kvsOf ks as))) := upd_same
    generalize (upd H2 d (.frz od (.dK (kvsOf ks as)))) = H3 at S2 hd2 ⊢
    refine ⟨d, od, rfl, .inl ⟨kvsOf ks as, hd2, fun D hD => lc_it (walk_keys (d := d) (o := od) (kvs := kvsOf ks as)) (fun i H' => Same H3 H' ∧ H' D = some (.lst (((ks.take i).filter fun r => decide (r ≤ lim)).map V.int))) ⟨same_new hD, upd_same⟩ (fun i H' _ z => z.1 _ _ hd2) (fun i x H4 H5 hi z hy => ?_) (fun H5 z => ?_)⟩⟩
    · obtain ⟨S4, hD4⟩ := z
      obtain ⟨rfl, kk, vv, hkk, rfl⟩ := hy
      rw [kvsOf_len G.D.len] at hi
      have hri : ks[i]? = some ks[i] := List.getElem?_eq_getElem hi
      have hai : as[i]? = some (as[i]'(by rw [G.D.len]; exact hi)) := List.getElem?_eq_getElem _
      generalize ks[i] = r at hri
      generalize as[i]'(by rw [G.D.len]; exact hi) = a at hai
      have ekk : (kvsOf ks as)[i]? = some ((Sum.inl r : Key), V.ref a) := by
        unfold kvsOf
        rw [List.getElem?_zipWith, hri, hai]
      rw [ekk] at hkk
      cases hkk
      have hlen : ((ks.take i).filter fun r => decide (r ≤ lim)).length ≤ 5000 := Nat.le_trans (List.length_filter_le ..) (by rw [List.length_take]; omega)
      refine ⟨rfl, ?_⟩
      refine ⟨_, rfl, _, rfl, _, _, rfl, rfl, _, rfl, ?_⟩
      by_cases hle : r ≤ lim
      · refine iteTb (decide_eq_true hle) ?_
        refine ⟨_, rfl, _, hD4, by rw [List.length_map]; exact small_line (by omega), same_app hD S4, ?_⟩
        rw [upd_same, List.take_add_one, hri, List.filter_append, List.map_append]
        show _ = some (HO.lst (_ ++ List.map V.int (List.filter (fun r => decide (r ≤ lim)) [r])))
        rw [List.filter_cons, if_pos (decide_eq_true hle)]
        rfl
      · refine iteFb (decide_eq_false hle) ⟨S4, ?_⟩
        rw [hD4, List.take_add_one, hri, List.filter_append]
        show _ = some (HO.lst (List.map V.int (_ ++ List.filter (fun r => decide (r ≤ lim)) [r])))
        rw [List.filter_cons, if_neg (by rw [decide_eq_false hle]; decide), List.filter_nil, List.append_nil]
    obtain ⟨S5, hD5⟩ := z
    rw [kvsOf_len G.D.len, List.take_length] at hD5
    have hB : NumB gs tl n lim (ks.filter fun r => decide (r ≤ lim)).length := (NumOf.list G.D.nk fun r => decide (r ≤ lim)).congr fun r => by
      rw [hkeys r, decide_eq_true_iff]
    have S15 := S2.trans S5
    have S05 := S1.trans S15
    have hq5 := S15 _ _ hq1
    have R5 := R.mono S05
    clear S2 hd2 hD G hkeys
    generalize (ks.filter fun r => decide (r ≤ lim)) = fl at hD5 hB
    refine ⟨D, _, rfl, .inl (SqL.of hD5), ?_⟩
    rw [List.length_map]
    obtain ⟨dx5, hob5⟩ := R5.ob
    refine ⟨_, rfl, p, dx5, _, rfl, hob5, nT, p, g, t, o, gs, tl, rfl, R5, ?_⟩
    cases tl with
    | rep m => exact absurd ⟨m, rfl⟩ hrep
    | fin =>
      have hn : n = gs.length + 1 := hT
      refine ⟨t, _, _, .str "end", rfl, rfl, SqT.of R5.ht, atI_nat (j := 0) rfl, rfl, _, rfl, iteFb rfl ?_⟩
      refine ⟨_, rfl, k _ H5 (hB.congr fun r => ?_) S05⟩
      constructor
      · rintro ⟨⟨i, j, z1, z2, z3⟩, z4⟩
        exact ⟨⟨i, j, z1, fun _ => by omega, z3⟩, z4⟩
      · rintro ⟨⟨i, j, z1, z2, z3⟩, z4⟩
        exact ⟨⟨i, j, z1, by have := z2 rfl; omega, z3⟩, z4⟩
    | times b =>
      refine ⟨t, _, _, .str "times", rfl, rfl, SqT.of R5.ht, atI_nat (j := 0) rfl, rfl, _, rfl, iteTb wTT ?_⟩
      have hT : Bey gs b (preS gs) n := hT
      refine ⟨_, rfl, _, rfl, _, rfl, _, rfl, q, _, rfl, .inl (SqL.of hq5), p, g, t, o, gs, b, lim, n, fl.length, ?_, R5, hl0, hl1, hT, hB, fun n2 H6 hN S6 => ?_⟩
      · rw [List.length_map, offL_len]
        rfl
      · refine ⟨_, _, rfl, rfl, ?_⟩
        have := k n2 H6 hN (S05.trans S6)
        rw [show (n2 : Int) = (fl.length : Int) + ((n2 : Int) - (fl.length : Int)) by omega] at this
        exact this
end
end RS
namespace Cmb
open PySem PySem.Spec PyProof.Rows
/-! ### combinations(list, 2): what the tables say of it -/
theorem mro_ : mroOf (.type "itertools.combinations") = pure [.type "itertools.combinations", .type "object"] := by
  rw [mroOf_type]
  kernel_rfl
theorem look_new : typeLookup (.type "itertools.combinations") "__new__" = pure (some (.builtin "itertools.combinations.__new__")) := by
  rw [typeLookup_type, builtinLookup_eq_fast]
  kernel_rfl
theorem sub_ : isSubtype (.type "itertools.combinations") (.type "itertools.combinations") = pure true := by
  rw [isSubtype_type]
  kernel_rfl
theorem slot_init : Slot "itertools.combinations" "__init__" "object.__init__" := by
  refine Slot.of (owner := "object") (n := "__init__") ?_ (by decide +kernel) (by decide +kernel) (by decide +kernel) (by first | exact .inl (by decide +kernel) | exact .inr (by decide +kernel)) ?_
  · rw [typeLookup_type, builtinLookup_eq_fast]
    kernel_rfl
  · rw [isSubtype_type]
    kernel_rfl
theorem slot_next : Slot "itertools.combinations" "__next__" "itertools.combinations.__next__" := by
  refine Slot.of (owner := "itertools.combinations") (n := "__next__") ?_ (by decide +kernel) (by decide +kernel) (by decide +kernel) (by first | exact .inl (by decide +kernel) | exact .inr (by decide +kernel)) ?_
  · rw [typeLookup_type, builtinLookup_eq_fast]
    kernel_rfl
  · rw [isSubtype_type]
    kernel_rfl
theorem entry_next : entryFor table "itertools.combinations.__next__" = some Builtin.«itertools.combinations.__next__» := by
  refine entryFor_of_tree ?_
  kernel_rfl
theorem entry_new : entryFor table "itertools.combinations.__new__" = some Builtin.«itertools.combinations.__new__» := by
  refine entryFor_of_tree ?_
  kernel_rfl
theorem called : TypeCalled "itertools.combinations" "itertools.combinations.__new__" "object.__init__" :=
  ⟨by decide +kernel, by decide +kernel, ⟨_, _, mro_⟩, madeBy_type mro_ look_new (by decide +kernel), by decide +kernel, sub_, slot_init⟩
theorem call_ok (a b : Value) : checkTypeCall "itertools.combinations" ⟨[a, b], []⟩ = pure () := by kernel_rfl
theorem new_ok (a b : Value) : checkBuiltinCall "itertools.combinations.__new__" ⟨[.type "itertools.combinations", a, b], []⟩ = pure () := by kernel_rfl
theorem owner_ : Manifest.owners.lookup (String.ofList (['s', 'n', 'o', 'i', 't', 'a', 'n', 'i', 'b', 'm', 'o', 'c', '.', 's', 'l', 'o', 'o', 't', 'r', 'e', 't', 'i'] : List Char).reverse) = some Manifest.sig_itertools_combinations := by kernel_rfl
theorem args_next (a : Value) : argsOk "itertools.combinations.__next__" ⟨[a], []⟩ := by
  unfold argsOk
  rw [signature?_of (n := ['_', '_', 't', 'x', 'e', 'n', '_', '_']) (o := ['s', 'n', 'o', 'i', 't', 'a', 'n', 'i', 'b', 'm', 'o', 'c', '.', 's', 'l', 'o', 'o', 't', 'r', 'e', 't', 'i']) (by kernel_rfl) owner_]
  kernel_rfl
theorem slot_iter : Slot "itertools.combinations" "__iter__" "itertools.combinations.__iter__" := by
  refine Slot.of (owner := "itertools.combinations") (n := "__iter__") ?_ (by decide +kernel) (by decide +kernel) (by decide +kernel) (by first | exact .inl (by decide +kernel) | exact .inr (by decide +kernel)) ?_
  · rw [typeLookup_type, builtinLookup_eq_fast]
    kernel_rfl
  · rw [isSubtype_type]
    kernel_rfl
theorem entry_iter : entryFor table "itertools.combinations.__iter__" = some Builtin.«dict_keyiterator.__iter__» := by
  refine entryFor_alias (id' := "dict_keyiterator.__iter__") ?_ ?_ (by decide +kernel) ?_
  · kernel_rfl
  · first
      | rfl
      | decide +kernel
      | (unfold String.splitOn; simp +decide [String.splitOnAux])
  · kernel_rfl
theorem args_iter (a : Value) : argsOk "itertools.combinations.__iter__" ⟨[a], []⟩ := by
  unfold argsOk
  rw [signature?_of (n := ['_', '_', 'r', 'e', 't', 'i', '_', '_']) (o := ['s', 'n', 'o', 'i', 't', 'a', 'n', 'i', 'b', 'm', 'o', 'c', '.', 's', 'l', 'o', 'o', 't', 'r', 'e', 't', 'i']) (by kernel_rfl) owner_]
  kernel_rfl
end Cmb
namespace Cmb
open PySem PySem.Spec PyProof.Rows
/-- the record of a walk over the pairs of the tuple at p -/
abbrev IsCmb (h : Heap) (it p : Addr) (st : Int) (old : Value) (i j : Nat) : Prop := h.get? it = some { cls := .type "itertools.combinations", dict := none, data := .fields #[.ref p, rawInt st, old, rawInt i, rawInt j], slots := #[] }
/-- a pool -/
abbrev IsPool (h : Heap) (p : Addr) (items : Array Value) : Prop := h.get? p = some { cls := .type "tuple", dict := none, data := .seq items 0, slots := #[] }
section
variable {prog : Program} {w : World} {A : Around} {E : Value → Shared → Prop} {s : Shared}
/-- a pair is handed out -/
theorem hand {it p : Addr} {st : Int} {old x y : Value} {i j i' j' : Nat} {items : Array Value} {Q : Value → Shared → Prop} (hit : IsCmb s.heap it p st old i' j') (hp : IsPool s.heap p items) (hx : items[i]? = some x) (hy : items[j]? = some y)
    (q : ∀ h', IsCmb h' it p st (.ref s.heap.objs.size) i' j' → h'.get? s.heap.objs.size = some { cls := .type "tuple", data := .seq #[x, y] } → h'.objs.size = s.heap.objs.size + 1 → (∀ b o, b ≠ it → s.heap.get? b = some o → h'.get? b = some o) → Q (.ref s.heap.objs.size) { s with heap := h' }) :
    wpAny (model prog w) A ((Builtin.Itertools.itPoolItems (.ref p) >>= fun its => newTuple ([i, j].map fun k => its.getD k .none)) >>= fun r => field (.ref it) 2 >>= fun b => setField (.ref it) 2 r >>= fun _ => letGo [b] [r] >>= fun _ => ret r) (fun fin s' => ∃ v, fin = .done (.ret v) ∧ Q v s') E s := by
  refine wpAny_bind (wpAny_bind ?_)
  unfold Builtin.Itertools.itPoolItems
  refine wpAny_bind (wpAny_seqItems hp rfl (wpAny_pure ?_))
  have e1 : items.getD i .none = x := by rw [Array.getD_eq_getD_getElem?, hx]; rfl
  have e2 : items.getD j .none = y := by rw [Array.getD_eq_getD_getElem?, hy]; rfl
  have e : ([i, j].map fun k => items.getD k Value.none) = [x, y] := by
    show [items.getD i .none, items.getD j .none] = _
    rw [e1, e2]
  rw [e]
  simp only [newTuple]
  refine wpAny_newObj_type ?_ (by size_fits)
  have lt : it < s.heap.objs.size := Heap.lt_size hit
  have hit1 := Heap.get?_push_of_some { cls := .type "tuple", data := .seq [x, y].toArray } hit
  have hT := Heap.get?_push_size s.heap (o := { cls := .type "tuple", data := .seq [x, y].toArray }) rfl
  have kp : ∀ b o, s.heap.get? b = some o → (s.heap.push { cls := .type "tuple", data := .seq [x, y].toArray }).get? b = some o := fun b o z => Heap.get?_push_of_some _ z
  have sz : (s.heap.push { cls := .type "tuple", data := .seq [x, y].toArray }).objs.size = s.heap.objs.size + 1 := Heap.size_push ..
  generalize s.heap.push { cls := .type "tuple", data := .seq [x, y].toArray } = h1 at hit1 hT kp sz
  refine wpAny_bind (wpAny_field hit1 rfl (x := old) rfl ?_)
  refine wpAny_bind (wpAny_setField hit1 rfl (by show 2 < 5; decide) ?_)
  refine wpAny_bind (wpAny_letGo ?_)
  refine wpAny_pure ⟨_, rfl, q _ (Heap.get?_update_self _ hit1 rfl) ?_ ?_ fun b o ne z => ?_⟩
  · exact ((Heap.SameBut.update ..).2 _ (Nat.ne_of_gt lt)).trans hT
  · exact (Heap.SameBut.update ..).1.trans sz
  · exact ((Heap.SameBut.update ..).2 _ ne).trans (kp b o z)
/-- the numbers that come next -/
def after (n : Nat) (l : List Nat) : Option (List Nat) :=
  match ((List.range l.length).reverse.find? fun k => l.getD k 0 != k + n - l.length) with
  | some k => some (l.take k ++ (List.range (l.length - k)).map (l.getD k 0 + 1 + ·))
  | none => none
theorem after_col {n i j : Nat} (h : j + 1 < n) : after n [i, j] = some [i, j + 1] := by
  have e : (j != 1 + n - 2) = true := by simp; omega
  simp only [after, List.length_cons, List.length_nil, List.range, List.range.loop, List.reverse_cons, List.reverse_nil, List.nil_append, List.cons_append, List.find?_cons]
  simp [e, List.range, List.range.loop]
theorem after_row {n i j : Nat} (h : j + 1 = n) (h2 : i + 2 < n) : after n [i, j] = some [i + 1, i + 2] := by
  have e : (j != 1 + n - 2) = false := by simp; omega
  have e2 : (i != n - 2) = true := by simp; omega
  simp only [after, List.length_cons, List.length_nil, List.range, List.range.loop, List.reverse_cons, List.reverse_nil, List.nil_append, List.cons_append, List.find?_cons]
  simp [e, e2, List.range.loop]
theorem after_no {n i j : Nat} (h : j + 1 = n) (h2 : i + 2 = n) : after n [i, j] = none := by
  have e : (j != 1 + n - 2) = false := by simp; omega
  have e2 : (i != n - 2) = false := by simp; omega
  simp only [after, List.length_cons, List.length_nil, List.range, List.range.loop, List.reverse_cons, List.reverse_nil, List.nil_append, List.cons_append, List.find?_cons]
  simp [e, e2]
/-- the walk's first pair -/
theorem next_first {it p : Addr} {old x y : Value} {i j : Nat} {items : Array Value} {Q : Option Value → Shared → Prop} (hit : IsCmb s.heap it p 0 old i j) (hp : IsPool s.heap p items) (ne : p ≠ it) (hx : items[i]? = some x) (hy : items[j]? = some y)
    (q : ∀ h', IsCmb h' it p 1 (.ref s.heap.objs.size) i j → h'.get? s.heap.objs.size = some { cls := .type "tuple", data := .seq #[x, y] } → h'.objs.size = s.heap.objs.size + 1 → (∀ b o, b ≠ it → s.heap.get? b = some o → h'.get? b = some o) → Q (some (.ref s.heap.objs.size)) { s with heap := h' }) :
    wpAny (model prog w) A (pyNext (.ref it)) Q E s := by
  have hT : s.TypeIs (.ref it) "itertools.combinations" := ⟨_, hit, rfl⟩
  unfold pyNext
  refine wpAny_bind (wpAny_attempt (wpAny_callSpecial?_slot (name := Str.ofString "__next__") hT slot_next (wpAny_call_entry slot_next hT entry_next ?_ (args_next _))))
  show wpAny _ _ (field (.ref it) 0 >>= _) _ _ s
  refine wpAny_bind (wpAny_field hit rfl (x := .ref p) rfl ?_)
  show wpAny _ _ (Builtin.Itertools.itNumbersFrom (.ref it) 3 >>= _) _ _ s
  refine wpAny_bind (show wpAny _ _ (load it >>= _) _ _ s from wpAny_bind (wpAny_load hit (wpAny_pure ?_)))
  show wpAny _ _ (Builtin.Itertools.itIntField (.ref it) 1 >>= _) _ _ s
  refine wpAny_bind (show wpAny _ _ (field (.ref it) 1 >>= _) _ _ s from wpAny_bind (wpAny_field hit rfl (x := rawInt 0) rfl (wpAny_pure ?_)))
  show wpAny _ _ (setField (.ref it) 1 (rawInt 1) >>= _) _ _ s
  refine wpAny_bind (wpAny_setField_rec hit (by show 1 < 5; decide) fun h1 hit1 sb => ?_)
  have hit1 : IsCmb h1 it p 1 old i j := hit1
  have hp1 : IsPool h1 p items := (sb.2 _ ne).trans hp
  have sz := sb.1
  refine hand (s := { s with heap := h1 }) hit1 hp1 hx hy fun h2 a b c d => wpAny_pure ?_
  rw [show ({ s with heap := h1 } : Shared).heap.objs.size = s.heap.objs.size from sz] at a b c ⊢
  exact q h2 a b c fun b' o nb z => d b' o nb ((sb.2 _ nb).trans z)
/-- .. its further ones -/
theorem next_more {it p : Addr} {old x y : Value} {i j i' j' : Nat} {items : Array Value} {Q : Option Value → Shared → Prop} (hit : IsCmb s.heap it p 1 old i j) (hp : IsPool s.heap p items) (ne : p ≠ it) (ha : after items.size [i, j] = some [i', j']) (hx : items[i']? = some x) (hy : items[j']? = some y)
    (q : ∀ h', IsCmb h' it p 1 (.ref s.heap.objs.size) i' j' → h'.get? s.heap.objs.size = some { cls := .type "tuple", data := .seq #[x, y] } → h'.objs.size = s.heap.objs.size + 1 → (∀ b o, b ≠ it → s.heap.get? b = some o → h'.get? b = some o) → Q (some (.ref s.heap.objs.size)) { s with heap := h' }) :
    wpAny (model prog w) A (pyNext (.ref it)) Q E s := by
  have hT : s.TypeIs (.ref it) "itertools.combinations" := ⟨_, hit, rfl⟩
  unfold pyNext
  refine wpAny_bind (wpAny_attempt (wpAny_callSpecial?_slot (name := Str.ofString "__next__") hT slot_next (wpAny_call_entry slot_next hT entry_next ?_ (args_next _))))
  show wpAny _ _ (field (.ref it) 0 >>= _) _ _ s
  refine wpAny_bind (wpAny_field hit rfl (x := .ref p) rfl ?_)
  show wpAny _ _ (Builtin.Itertools.itNumbersFrom (.ref it) 3 >>= _) _ _ s
  refine wpAny_bind (show wpAny _ _ (load it >>= _) _ _ s from wpAny_bind (wpAny_load hit (wpAny_pure ?_)))
  show wpAny _ _ (Builtin.Itertools.itIntField (.ref it) 1 >>= _) _ _ s
  refine wpAny_bind (show wpAny _ _ (field (.ref it) 1 >>= _) _ _ s from wpAny_bind (wpAny_field hit rfl (x := rawInt 1) rfl (wpAny_pure ?_)))
  show wpAny _ _ (Builtin.Itertools.itPoolItems (.ref p) >>= _) _ _ s
  refine wpAny_bind ?_
  unfold Builtin.Itertools.itPoolItems
  refine wpAny_bind (wpAny_seqItems hp rfl (wpAny_pure ?_))
  dsimp only
  split
  · rename_i nx hn
    have hn : after items.size [i, j] = some nx := Eq.trans (by kernel_rfl) hn
    rw [ha] at hn
    cases hn
    show wpAny _ _ (Builtin.Itertools.itSetNumbersFrom (.ref it) 3 [i', j'] >>= _) _ _ s
    refine wpAny_bind ?_
    unfold Builtin.Itertools.itSetNumbersFrom
    refine wpAny_updateFields hit rfl ?_ (by show 5 ≤ sizeLine + 3; decide)
    have hit1 := Heap.get?_update_self (Obj.mapFields fun fs => fs.extract 0 3 ++ (([i', j'] : List Nat).map fun (n : Nat) => rawInt n).toArray) hit rfl
    have sb := Heap.SameBut.update s.heap it (Obj.mapFields fun fs => fs.extract 0 3 ++ (([i', j'] : List Nat).map fun (n : Nat) => rawInt n).toArray)
    generalize s.heap.update it (Obj.mapFields fun fs => fs.extract 0 3 ++ (([i', j'] : List Nat).map fun (n : Nat) => rawInt n).toArray) = h1 at hit1 sb ⊢
    have hit1 : IsCmb h1 it p 1 old i' j' := hit1
    have hp1 : IsPool h1 p items := (sb.2 _ ne).trans hp
    have sz := sb.1
    refine hand (s := { s with heap := h1 }) hit1 hp1 hx hy fun h2 a b c d => wpAny_pure ?_
    rw [show ({ s with heap := h1 } : Shared).heap.objs.size = s.heap.objs.size from sz] at a b c ⊢
    exact q h2 a b c fun b' o nb z => d b' o nb ((sb.2 _ nb).trans z)
  · rename_i hn
    have hn : after items.size [i, j] = none := Eq.trans (by kernel_rfl) hn
    rw [ha] at hn
    cases hn
/-- the stop -/
theorem stop_ok {Q : Option Value → Shared → Prop} (hh : A.handled = none) (q : ∀ h', (∀ b o, s.heap.get? b = some o → h'.get? b = some o) → Q none { s with heap := h' }) :
    wpAny (model prog w) A.in1 (Builtin.Itertools.itStop : Sem Fin) (fun fin s' => ∃ v, fin = .done (.ret v) ∧ wpAny (model prog w) A (pure (some v)) Q E s')
      (fun e s' => wpAny (model prog w) A (do if ← isInstance e (.type "StopIteration") then pure none else throw e) Q E s') s := by
  unfold Builtin.Itertools.itStop
  refine wpAny_bind ?_
  simp only [newExc, newTuple]
  refine wpAny_bind (wpAny_newObj_type ?_ (by size_fits))
  refine wpAny_bind (m := firstArgMember _ _) (wpAny_of_eq (a := Value.none) (by first | rfl | (simp only [firstArgMember]; rfl)) ?_)
  refine wpAny_newObj_type ?_ (by size_fits)
  simp only [raiseNew]
  refine wpAny_bind (wpAny_handled ?_)
  rw [show A.in1.handled = none from hh]
  refine wpAny_bind (wpAny_pure (wpAny_throw ?_))
  refine wpAny_bind (wpAny_isInstance (T := "StopIteration") (b := true) ⟨_, Heap.get?_push_size _ rfl, rfl⟩ isSubtype_stop ?_)
  exact wpAny_pure (q _ fun b o z => Heap.get?_push_of_some _ (Heap.get?_push_of_some _ z))
/-- the walk is over -/
theorem next_none {it p : Addr} {st : Int} {old : Value} {i j : Nat} {items : Array Value} {Q : Option Value → Shared → Prop} (hh : A.handled = none) (hit : IsCmb s.heap it p st old i j) (hp : IsPool s.heap p items) (ne : p ≠ it) (ha : (st = 1 ∧ after items.size [i, j] = none) ∨ st = 2)
    (q : ∀ h', (∀ b o, b ≠ it → s.heap.get? b = some o → h'.get? b = some o) → Q none { s with heap := h' }) : wpAny (model prog w) A (pyNext (.ref it)) Q E s := by
  have hT : s.TypeIs (.ref it) "itertools.combinations" := ⟨_, hit, rfl⟩
  unfold pyNext
  refine wpAny_bind (wpAny_attempt (wpAny_callSpecial?_slot (name := Str.ofString "__next__") hT slot_next (wpAny_call_entry slot_next hT entry_next ?_ (args_next _))))
  show wpAny _ _ (field (.ref it) 0 >>= _) _ _ s
  refine wpAny_bind (wpAny_field hit rfl (x := .ref p) rfl ?_)
  show wpAny _ _ (Builtin.Itertools.itNumbersFrom (.ref it) 3 >>= _) _ _ s
  refine wpAny_bind (show wpAny _ _ (load it >>= _) _ _ s from wpAny_bind (wpAny_load hit (wpAny_pure ?_)))
  show wpAny _ _ (Builtin.Itertools.itIntField (.ref it) 1 >>= _) _ _ s
  refine wpAny_bind (show wpAny _ _ (field (.ref it) 1 >>= _) _ _ s from wpAny_bind (wpAny_field hit rfl (x := rawInt st) rfl (wpAny_pure ?_)))
  rcases ha with ⟨rfl, ha⟩ | rfl
  · show wpAny _ _ (Builtin.Itertools.itPoolItems (.ref p) >>= _) _ _ s
    refine wpAny_bind ?_
    unfold Builtin.Itertools.itPoolItems
    refine wpAny_bind (wpAny_seqItems hp rfl (wpAny_pure ?_))
    dsimp only
    split
    · rename_i nx hn
      have hn : after items.size [i, j] = some nx := Eq.trans (by kernel_rfl) hn
      rw [ha] at hn
      cases hn
    · refine wpAny_bind (wpAny_setField_rec hit (by show 1 < 5; decide) fun h1 hit1 sb => ?_)
      exact stop_ok (s := { s with heap := h1 }) hh fun h2 k => q h2 fun b o nb z => k b o ((sb.2 _ nb).trans z)
  · show wpAny _ _ (rule "itertools.combinations.ended" >>= _) _ _ s
    exact wpAny_bind (wpAny_rule (stop_ok hh fun h2 k => q h2 fun b o _ z => k b o z))
/-- iter() of it is it -/
theorem iter_self {it p : Addr} {st : Int} {old : Value} {i j : Nat} {Q : Value → Shared → Prop} (hit : IsCmb s.heap it p st old i j) (q : Q (.ref it) s) : wpAny (model prog w) A (pyIter (.ref it)) Q E s := by
  have hT : s.TypeIs (.ref it) "itertools.combinations" := ⟨_, hit, rfl⟩
  refine wpAny_pyIter_slot hT slot_iter (wpAny_call_entry slot_iter hT entry_iter ?_ (args_iter _))
  show wpAny _ _ (ret (.ref it)) _ _ s
  exact wpAny_pure ⟨_, rfl, "itertools.combinations", _, hT, slot_next.lookup, q⟩
end
end Cmb
namespace Cmb
open PySem PySem.Spec PyProof.Rows
open AutoSeq1 (wpAny_loadPart')
/-- the record that is laid -/
def rec_ (p : Addr) (m : Nat) : Obj := { cls := .type "itertools.combinations", data := .fields #[.ref p, rawInt (if 2 > m then 2 else 0), .none, rawInt ((0 : Nat) : Int), rawInt ((1 : Nat) : Int)] }
theorem no_dict : (!typeHasDict (.type "itertools.combinations")) = true := by kernel_rfl
set_option maxHeartbeats 1000000 in
theorem meets_new (l : Addr) (items : Array Value) (n : Nat) (d : Option Addr) (sl : Array (Option Value)) (t : Tok) (hz : items.size ≤ sizeLine) :
    Meets (Builtin.«itertools.combinations.__new__» ⟨[.type "itertools.combinations", .ref l, .int 2 t], []⟩) (fun _ R s => s.heap.get? l = some { cls := .type "list", dict := d, data := .seq items n, slots := sl } ∧
      ∀ h' : Heap, (∀ b o, s.heap.get? b = some o → h'.get? b = some o) → R (.ok (.ret (.ref (h'.push { cls := .type "tuple", data := .seq items }).objs.size))) { s with heap := (h'.push { cls := .type "tuple", data := .seq items }).push (rec_ h'.objs.size items.size) }) :=
  .of_wp fun prog w A R s k => by
    obtain ⟨hl, r⟩ := k
    obtain ⟨hp, g, dr, tk, os⟩ := s
    have hsub := sub_
    unfold Builtin.«itertools.combinations.__new__»
    wp_walk using wpAny_loadPart' hl, wpAny_collect_seq (hsz := hz) l (.inl rfl) hl rfl rfl
    refine wpAny_of_eq (a := true) (show isSubtype (.type "itertools.combinations") (.type ("itertools." ++ "combinations")) = pure true from ?_) ?_
    · rw [show ("itertools." ++ "combinations" : String) = "itertools.combinations" by decide]
      exact sub_
    wp_walk using wpAny_loadPart' hl, wpAny_collect_seq (hsz := hz) l (.inl rfl) hl rfl rfl
    intro h' hk
    have k := r h' hk
    clear r
    dsimp only
    rw [if_neg (show ¬ ((2 : Int) < 0) by decide), if_neg (show ¬ (Builtin.Itertools.itTooMany 2 = true) by decide)]
    refine wpAny_bind ?_
    simp only [newTuple]
    refine wpAny_newObj_type ?_ (by show items.toList.toArray.size ≤ sizeLine; simpa using hz)
    refine wpAny_pure ?_
    dsimp only
    have el : items.toList.toArray = items := by simp
    have ez : items.toList.length = items.size := by simp
    rw [el, ez]
    refine wpAny_bind ?_
    unfold Builtin.Itertools.itNewRecord
    rw [if_pos (show (!typeHasDict (.type "itertools.combinations")) = true from no_dict)]
    refine wpAny_newObj_type ?_ ?_
    · exact wpAny_pure ⟨_, rfl, k⟩
    · show (5 : Nat) ≤ sizeLine + 2
      decide

section
variable {prog : Program} {w : World} {A : Around} {E : Value → Shared → Prop} {s : Shared}
theorem call_new {l : Addr} {items : Array Value} {t : Tok} {Q : Value → Shared → Prop} (hL : s.heap.IsList l items) (hz : items.size ≤ sizeLine)
    (q : ∀ h' : Heap, (∀ b o, s.heap.get? b = some o → h'.get? b = some o) → Q (.ref (h'.push { cls := .type "tuple", data := .seq items }).objs.size) { s with heap := (h'.push { cls := .type "tuple", data := .seq items }).push (rec_ h'.objs.size items.size) }) :
    wpAny (model prog w) A (call (.type "itertools.combinations") [.ref l, .int 2 t]) Q E s := by
  obtain ⟨⟨c, dct, dt, sl⟩, hl, hc, n, hd⟩ := hL
  have hc : c = .type "list" := hc
  have hd : dt = .seq items n := hd
  subst hc hd
  exact callType_new called (by decide) (call_ok _ _) (new_ok _ _) (fun obj => F.args_object_init_3 obj _ _) entry_new (meets_new l items n dct sl t hz) ⟨hl, fun h' hk => ⟨⟨_, Heap.get?_push_size _ rfl, rfl⟩, q h' hk⟩⟩
end
end Cmb
namespace Cmb
/-! ### the pairs in their order -/
def row (n a : Nat) : List (Nat × Nat) := (List.range (n - (a + 1))).map fun d => (a, a + 1 + d)
def rows (n : Nat) : Nat → List (Nat × Nat)
  | 0 => []
  | k + 1 => row n (n - (k + 1)) ++ rows n k
def pairsOf (n : Nat) : List (Nat × Nat) := rows n n
def fromP (n a b : Nat) : List (Nat × Nat) := (List.range (n - b)).map (fun d => (a, b + d)) ++ rows n (n - (a + 1))
theorem fromP_col {n a b : Nat} (h : b + 1 < n) : fromP n a b = (a, b) :: fromP n a (b + 1) := by
  unfold fromP
  rw [show n - b = (n - (b + 1)) + 1 by omega, List.range_succ_eq_map, List.map_cons, List.map_map]
  have e : ((fun d => (a, b + d)) ∘ Nat.succ) = fun d => (a, b + 1 + d) := funext fun d => by
    show (a, b + (d + 1)) = (a, b + 1 + d)
    rw [show b + (d + 1) = b + 1 + d by omega]
  rw [e]
  rfl
theorem fromP_row {n a b : Nat} (h : b + 1 = n) (h2 : a + 2 < n) : fromP n a b = (a, b) :: fromP n (a + 1) (a + 2) := by
  unfold fromP
  rw [show n - b = 1 by omega, show n - (a + 1) = (n - (a + 2)) + 1 by omega]
  show (a, b + 0) :: ([] ++ (row n (n - ((n - (a + 2)) + 1)) ++ rows n (n - (a + 2)))) = _
  rw [show n - ((n - (a + 2)) + 1) = a + 1 by omega]
  rfl
theorem fromP_no {n a b : Nat} (h : b + 1 = n) (h2 : a + 2 = n) : fromP n a b = [(a, b)] := by
  unfold fromP
  rw [show n - b = 1 by omega, show n - (a + 1) = 1 by omega]
  show (a, b + 0) :: ([] ++ (row n (n - (0 + 1)) ++ rows n 0)) = _
  rw [show row n (n - (0 + 1)) = [] by unfold row; rw [show n - (n - (0 + 1) + 1) = 0 by omega]; rfl]
  rfl
theorem pairs_from {n : Nat} (h : 2 ≤ n) : pairsOf n = fromP n 0 1 := by
  unfold pairsOf fromP
  obtain ⟨k, rfl⟩ : ∃ k, n = k + 1 := ⟨n - 1, by omega⟩
  show row (k + 1) (k + 1 - (k + 1)) ++ rows (k + 1) k = _
  rw [show k + 1 - (k + 1) = 0 by omega]
  rfl
theorem pairs_few {n : Nat} (h : n < 2) : pairsOf n = [] := by
  match n, h with
  | 0, _ => rfl
  | 1, _ => rfl
theorem mem_row {n a : Nat} {p : Nat × Nat} : p ∈ row n a ↔ p.1 = a ∧ a < p.2 ∧ p.2 < n := by
  unfold row
  rw [List.mem_map]
  constructor
  · rintro ⟨d, hd, rfl⟩
    have := List.mem_range.mp hd
    exact ⟨rfl, by show a < a + 1 + d; omega, by show a + 1 + d < n; omega⟩
  · obtain ⟨x, y⟩ := p
    rintro ⟨rfl, h1, h2⟩
    have h1 : x < y := h1
    have h2 : y < n := h2
    exact ⟨y - (x + 1), List.mem_range.mpr (by omega), by show (x, x + 1 + (y - (x + 1))) = (x, y); rw [show x + 1 + (y - (x + 1)) = y by omega]⟩
theorem mem_rows {n : Nat} {p : Nat × Nat} : ∀ {k : Nat}, k ≤ n → (p ∈ rows n k ↔ n - k ≤ p.1 ∧ p.1 < p.2 ∧ p.2 < n)
  | 0, _ => by
    show p ∈ [] ↔ _
    constructor
    · intro z
      cases z
    · intro z
      omega
  | k + 1, h => by
    show p ∈ row n (n - (k + 1)) ++ rows n k ↔ _
    rw [List.mem_append, mem_row, mem_rows (k := k) (by omega)]
    omega
theorem mem_pairs {n : Nat} {p : Nat × Nat} : p ∈ pairsOf n ↔ p.1 < p.2 ∧ p.2 < n := by
  unfold pairsOf
  rw [mem_rows (Nat.le_refl n)]
  omega
theorem row_nodup (n a : Nat) : (row n a).Nodup := by
  unfold row
  refine List.pairwise_map.mpr (List.nodup_range.imp ?_)
  intro x y h e
  have e : a + 1 + x = a + 1 + y := (Prod.mk.inj e).2
  omega
theorem rows_nodup {n : Nat} : ∀ {k : Nat}, k ≤ n → (rows n k).Nodup
  | 0, _ => List.nodup_nil
  | k + 1, h => by
    refine List.nodup_append.mpr ⟨row_nodup _ _, rows_nodup (by omega), fun x hx y hy e => ?_⟩
    subst e
    have h1 := mem_row.mp hx
    have h2 := (mem_rows (by omega)).mp hy
    omega
theorem pairs_nodup (n : Nat) : (pairsOf n).Nodup := rows_nodup (Nat.le_refl n)
end Cmb
namespace Cmb
open PySem PySem.Spec PyProof.Rows L2
/-- the pairs of xs in their order, each in a new tuple -/
def Itp (xs : List V) : It :=
  ⟨fun i _ => i < (pairsOf xs.length).length, fun i H v H' => ∃ T x y a b, v = .ref T ∧ H T = none ∧ H' = upd H T (.tup [x, y]) ∧ (pairsOf xs.length)[i]? = some (a, b) ∧ xs[a]? = some x ∧ xs[b]? = some y, fun i _ => (pairsOf xs.length).length ≤ i⟩
/-- where the record stands at turn i -/
def At (n : Nat) (st : Int) (a b i : Nat) : Prop := (st = 0 ∧ a < b ∧ b < n ∧ (pairsOf n).drop i = fromP n a b) ∨ (st = 1 ∧ a < b ∧ b < n ∧ (a, b) :: (pairsOf n).drop i = fromP n a b) ∨ (st = 2 ∧ (pairsOf n).drop i = [])
theorem At.zero (n : Nat) : At n (if 2 > n then 2 else 0) 0 1 0 := by
  by_cases h : 2 > n
  · rw [if_pos h]
    exact .inr (.inr ⟨rfl, by rw [pairs_few h]; rfl⟩)
  · rw [if_neg h]
    exact .inl ⟨rfl, by omega, by omega, by rw [List.drop_zero]; exact pairs_from (by omega)⟩
theorem drop_head {α : Type} {l r : List α} {i : Nat} {x : α} (h : l.drop i = x :: r) : l[i]? = some x ∧ l.drop (i + 1) = r ∧ i < l.length := by
  have hi : i < l.length := by
    rcases Nat.lt_or_ge i l.length with z | z
    · exact z
    · rw [List.drop_eq_nil_of_le z] at h
      cases h
  rw [List.drop_eq_getElem_cons hi] at h
  injection h with h1 h2
  exact ⟨by rw [List.getElem?_eq_getElem hi, h1], h2, hi⟩
theorem at_some {n i a b : Nat} {x : Nat × Nat} {r : List (Nat × Nat)} (hab : a < b) (hb : b < n) (h : fromP n a b = x :: r) : x = (a, b) ∧ ((∃ a' b', after n [a, b] = some [a', b'] ∧ a' < b' ∧ b' < n ∧ r = fromP n a' b') ∨ (after n [a, b] = none ∧ r = [])) := by
  by_cases h1 : b + 1 < n
  · rw [fromP_col h1] at h
    injection h with e1 e2
    exact ⟨e1.symm, .inl ⟨a, b + 1, after_col h1, by omega, h1, e2.symm⟩⟩
  · have h1 : b + 1 = n := by omega
    by_cases h2 : a + 2 < n
    · rw [fromP_row h1 h2] at h
      injection h with e1 e2
      exact ⟨e1.symm, .inl ⟨a + 1, a + 2, after_row h1 h2, by omega, h2, e2.symm⟩⟩
    · have h2 : a + 2 = n := by omega
      rw [fromP_no h1 h2] at h
      injection h with e1 e2
      exact ⟨e1.symm, .inr ⟨after_no h1 h2, e2.symm⟩⟩
theorem turn_pairs {P : Program} {w : World} {K : PySem.W.Frag} {elts : List Expr} {kk : Nat} {tpos : Pos} (it p : Addr) {xs : List V} {us : List Value} (rv : Vals xs us) (ne : p ≠ it) :
    Turn P w K (.Tuple elts kk tpos) (Itp xs) [it, p] it (fun i h => (∃ st old a b, IsCmb h it p st old a b ∧ At xs.length st a b i) ∧ IsPool h p us.toArray) where
  mem := by simp
  obj := fun i h k b hb => by
    obtain ⟨⟨st, old, x, y, h1, _⟩, h2⟩ := k
    rcases (show b = it ∨ b = p by simpa using hb) with rfl | rfl
    · exact ⟨_, h1, fun v z => by cases z⟩
    · exact ⟨_, h2, fun v z => by cases z⟩
  keep := fun i h h' k same => by
    obtain ⟨⟨st, old, x, y, h1, at_⟩, h2⟩ := k
    exact ⟨⟨st, old, x, y, same it (by simp) _ h1, at_⟩, same p (by simp) _ h2⟩
  item := by
    intro X eP ew eK hc i pins s σ H E I hf k go
    subst eP ew eK
    obtain ⟨⟨st, old, a, b, hit, at_⟩, hp⟩ := k
    have go : i < (pairsOf xs.length).length := go
    have sz : us.toArray.size = xs.length := by rw [List.size_toArray]; exact rv.length.symm
    have il : it < s.heap.objs.size := Heap.lt_size hit
    have pl : p < s.heap.objs.size := Heap.lt_size hp
    -- what comes, and where the record then stands
    obtain ⟨a', b', hab, hb, hL, hat, hway⟩ : ∃ a' b', a' < b' ∧ b' < xs.length ∧ (pairsOf xs.length)[i]? = some (a', b') ∧ At xs.length 1 a' b' (i + 1) ∧ ((st = 0 ∧ a = a' ∧ b = b') ∨ (st = 1 ∧ after xs.length [a, b] = some [a', b'])) := by
      rcases at_ with ⟨rfl, h1, h2, h3⟩ | ⟨rfl, h1, h2, h3⟩ | ⟨_, h3⟩
      · rw [List.drop_eq_getElem_cons go] at h3
        obtain ⟨e, _⟩ := at_some (i := i) h1 h2 h3.symm
        exact ⟨a, b, h1, h2, by rw [List.getElem?_eq_getElem go, e], .inr (.inl ⟨rfl, h1, h2, by rw [← h3, e]⟩), .inl ⟨rfl, rfl, rfl⟩⟩
      · obtain ⟨_, h4⟩ := at_some (i := i) h1 h2 h3.symm
        rcases h4 with ⟨a', b', h5, h6, h7, h8⟩ | ⟨_, h8⟩
        · rw [List.drop_eq_getElem_cons go] at h8
          obtain ⟨e, _⟩ := at_some (i := i) h6 h7 h8.symm
          exact ⟨a', b', h6, h7, by rw [List.getElem?_eq_getElem go, e], .inr (.inl ⟨rfl, h6, h7, by rw [← h8, e]⟩), .inr ⟨rfl, h5⟩⟩
        · rw [List.drop_eq_getElem_cons go] at h8
          cases h8
      · rw [List.drop_eq_getElem_cons go] at h3
        cases h3
    have gx : xs[a']? = some xs[a'] := List.getElem?_eq_getElem (by omega)
    have gy : xs[b']? = some xs[b'] := List.getElem?_eq_getElem hb
    generalize xs[a'] = x at gx
    generalize xs[b'] = y at gy
    obtain ⟨u, hu, ru⟩ := rv.get gx
    obtain ⟨u2, hu2, ru2⟩ := rv.get gy
    have fin : ∀ h', IsCmb h' it p 1 (.ref s.heap.objs.size) a' b' → h'.get? s.heap.objs.size = some { cls := .type "tuple", data := .seq #[u, u2] } → h'.objs.size = s.heap.objs.size + 1 → (∀ c o, c ≠ it → s.heap.get? c = some o → h'.get? c = some o) →
        ∃ v, some (Value.ref s.heap.objs.size) = some v ∧ wpAny (model X.prog X.w) X.A (letOwnedTupleGo (.Tuple elts kk tpos) (.ref it) v) (fun _ s2 => ∃ x H', Inv X pins σ H' s2 ∧ RelV x v ∧ (Itp xs).yld i H x H' ∧ ((∃ st old a b, IsCmb s2.heap it p st old a b ∧ At xs.length st a b (i + 1)) ∧ IsPool s2.heap p us.toArray) ∧ ∀ b ∈ [it, p], H' b = none) E { s with heap := h' } := by
      intro h' hit' hT _ kp
      refine ⟨_, rfl, go_of (n := "itertools.combinations") hit' rfl rfl (by decide) ?_⟩
      have new : ObjOk X.prog X.w (upd H s.heap.objs.size (.tup [x, y])) h' s.heap.objs.size (.tup [x, y]) := ⟨by show 2 ≤ sizeLine; decide, [u, u2], .cons ru (.cons ru2 .nil), ⟨_, hT, rfl, _, rfl⟩⟩
      have I1 : Inv X pins σ (upd H s.heap.objs.size (.tup [x, y])) { s with heap := h' } := I.turnedNew (t' := s.toks) (ch := [it, p]) (fun c o hm q => kp c o (fun z => hm (by simp [z])) q) hf (Nat.le_refl _) new
      refine ⟨.ref s.heap.objs.size, _, I1, rfl, ⟨_, x, y, a', b', rfl, I.hok.fresh (Nat.le_refl _), rfl, hL, gx, gy⟩, ⟨⟨1, _, a', b', hit', hat⟩, kp p _ ne hp⟩, fun c hm => ?_⟩
      have lt : c < s.heap.objs.size := by
        rcases (show c = it ∨ c = p by simpa using hm) with rfl | rfl
        · exact il
        · exact pl
      rw [upd_ne (Nat.ne_of_lt lt)]
      exact (hf c hm).1
    rcases hway with ⟨rfl, rfl, rfl⟩ | ⟨rfl, ha⟩
    · exact next_first hit hp ne (by simpa using hu) (by simpa using hu2) fin
    · exact next_more hit hp ne (by rw [sz]; exact ha) (by simpa using hu) (by simpa using hu2) fin
  done := by
    intro X eP ew eK hc i pins s σ H E I hf k stop
    subst eP ew eK
    obtain ⟨⟨st, old, a, b, hit, at_⟩, hp⟩ := k
    have stop : (pairsOf xs.length).length ≤ i := stop
    have sz : us.toArray.size = xs.length := by rw [List.size_toArray]; exact rv.length.symm
    have nil : (pairsOf xs.length).drop i = [] := List.drop_eq_nil_of_le stop
    have way : (st = 1 ∧ after us.toArray.size [a, b] = none) ∨ st = 2 := by
      rcases at_ with ⟨rfl, h1, h2, h3⟩ | ⟨rfl, h1, h2, h3⟩ | ⟨rfl, h3⟩
      · rw [nil] at h3
        by_cases z : b + 1 < xs.length
        · rw [fromP_col z] at h3
          cases h3
        · by_cases z2 : a + 2 < xs.length
          · rw [fromP_row (by omega) z2] at h3
            cases h3
          · rw [fromP_no (by omega) (by omega)] at h3
            cases h3
      · obtain ⟨_, h4⟩ := at_some (i := i) h1 h2 h3.symm
        rcases h4 with ⟨a', b', h5, h6, h7, h8⟩ | ⟨h8, _⟩
        · rw [nil] at h8
          by_cases z : b' + 1 < xs.length
          · rw [fromP_col z] at h8
            cases h8
          · by_cases z2 : a' + 2 < xs.length
            · rw [fromP_row (by omega) z2] at h8
              cases h8
            · rw [fromP_no (by omega) (by omega)] at h8
              cases h8
        · exact .inl ⟨rfl, by rw [sz]; exact h8⟩
      · exact .inr rfl
    obtain ⟨f0, f1, f2, f3, f4, f5⟩ := hf it (by simp)
    exact next_none (I.ok.hd hc) hit hp ne way fun h' kp => ⟨rfl, I.turned (t' := s.toks) (fun c o hm q => kp c o hm q) f0 f1 f3 f4 f5⟩
  self := fun A i s Q E k q => let ⟨⟨_, _, _, _, hit, _⟩, _⟩ := k; iter_self hit q
end Cmb
namespace Cmb
open PySem PySem.Spec PyProof.Rows L2
def iPairs (K : PySem.W.Frag) (ta : TA) : TI := fun σ H R => ta σ H fun vs H1 => ∃ a xs, vs = [.ref a, .int 2] ∧ SqL K H1 a xs ∧ R (Itp xs) H1
theorem two_of {x y : V} : ∀ {us : List Value}, Vals [x, y] us → ∃ u1 u2, us = [u1, u2] ∧ RelV x u1 ∧ RelV y u2
  | _, .cons r1 (.cons r2 .nil) => ⟨_, _, rfl, r1, r2⟩
theorem pi_pairs {X : Cx} {e r : Expr} {ta : TA} {p pos tpos : Pos} {elts : List Expr} {kk : Nat} (hg : Gl X "combinations") (hm : X.mg "combinations" = some (.type "itertools.combinations")) (ha : PA X [e, r] ta) (hs : starEach [e, r] X.env = (false, eval e X.env) :: starEach [r] X.env := by rfl)
    (hpl : (backTo pos (starEach [r] X.env)).any (·.1) = false := by rfl) : PI X (.Tuple elts kk tpos) (.Call (.Name "combinations" p) [e, r] [] pos) (iPairs X.K ta) := by
  refine ⟨fun pins s σ H R I h => ?_⟩
  refine Call_ (ld_glob I hg hm (PyProof.Rows.callWith_type1 (thn (ha.run pos pins s σ H _ I h) fun us s1 ⟨vs, H1, I1, r1, q1⟩ => ?_) hs hpl))
  obtain ⟨a, xs, rfl, hq, q⟩ := q1
  obtain ⟨u1, u2, rfl, ra, rb⟩ := two_of r1
  cases ra
  obtain ⟨t, rfl⟩ := rb
  obtain ⟨its, rv, p', hz⟩ := I1.list hq
  have hl : its.length = xs.length := rv.length.symm
  refine call_new p'.isList (by rw [List.size_toArray, hl]; exact hz) fun h' hk => ?_
  have sz1 : (h'.push { cls := .type "tuple", data := .seq its.toArray }).objs.size = h'.objs.size + 1 := Heap.size_push ..
  have hp0 : IsPool (h'.push { cls := .type "tuple", data := .seq its.toArray }) h'.objs.size its.toArray := Heap.get?_push_size _ rfl
  have hit : IsCmb ((h'.push { cls := .type "tuple", data := .seq its.toArray }).push (rec_ h'.objs.size its.toArray.size)) (h'.push { cls := .type "tuple", data := .seq its.toArray }).objs.size h'.objs.size (if 2 > its.toArray.size then 2 else 0) .none 0 1 := Heap.get?_push_size _ rfl
  have hp := Heap.get?_push_of_some (rec_ h'.objs.size its.toArray.size) hp0
  have ne : h'.objs.size ≠ (h'.push { cls := .type "tuple", data := .seq its.toArray }).objs.size := by rw [sz1]; omega
  refine iter_self hit ?_
  have I1' : Inv X pins σ H1 { s1 with heap := h' } := I1.kept (t' := s1.toks) hk
  have I2 : Inv X pins σ H1 { s1 with heap := (h'.push { cls := .type "tuple", data := .seq its.toArray }).push (rec_ h'.objs.size its.toArray.size) } := I1.kept (t' := s1.toks) fun b o z => Heap.get?_push_of_some _ (Heap.get?_push_of_some _ (hk b o z))
  refine ⟨_, [(h'.push { cls := .type "tuple", data := .seq its.toArray }).objs.size, h'.objs.size], _, _, H1, rfl, I2, turn_pairs _ h'.objs.size rv ne, ⟨⟨_, _, 0, 1, hit, ?_⟩, hp⟩, fun b hb => ?_, q⟩
  · rw [show its.toArray.size = xs.length by rw [List.size_toArray]; exact hl]
    exact At.zero _
  · have hle : ({ s1 with heap := h' } : Shared).heap.objs.size ≤ b := by
      show h'.objs.size ≤ b
      rcases (show b = (h'.push { cls := .type "tuple", data := .seq its.toArray }).objs.size ∨ b = h'.objs.size by simpa using hb) with rfl | rfl
      · rw [sz1]
        omega
      · exact Nat.le_refl _
    exact I1'.fpOk hle (I1'.hok.fresh hle)
/-- the turns -/
theorem walk_pairs {xs : List V} : Walk (Itp xs) (pairsOf xs.length).length (fun _ => True) (fun i H v H' => ∃ T x y a b, v = .ref T ∧ H T = none ∧ H' = upd H T (.tup [x, y]) ∧ (pairsOf xs.length)[i]? = some (a, b) ∧ xs[a]? = some x ∧ xs[b]? = some y) :=
  ⟨fun _ _ hi _ => hi, fun _ _ => Nat.le_refl _, fun _ _ _ _ _ _ y => y⟩
end Cmb
/-! ### len(set(xs)) of any ints -/
namespace L2
open PySem PySem.Spec PyProof.Rows
theorem firstMet_few {f : Nat → Int} : ∀ i, (firstMet f i).length = i → firstMet f i = (List.range i).map f ∧ ((List.range i).map f).Nodup
  | 0, _ => ⟨rfl, List.nodup_nil⟩
  | i + 1, h => by
    have le := firstMet_length_le f i
    rw [firstMet_succ] at h ⊢
    unfold step_dedup at h ⊢
    by_cases z : ((firstMet f i).any (· == f i)) = true
    · rw [if_pos z] at h
      omega
    · rw [if_neg z] at h ⊢
      have hl : (firstMet f i).length = i := by
        rw [List.length_append, List.length_singleton] at h
        omega
      obtain ⟨e, nd⟩ := firstMet_few i hl
      rw [e] at z ⊢
      rw [List.range_succ, List.map_append]
      refine ⟨rfl, List.nodup_append.mpr ⟨nd, List.nodup_cons.mpr ⟨(fun q => by cases q), List.nodup_nil⟩, fun x hx y hy q => z ?_⟩⟩
      have ey : y = f i := List.mem_singleton.mp hy
      exact List.any_eq_true.mpr ⟨x, hx, by rw [q, ey]; exact beq_self_eq_true _⟩
theorem firstMet_nd {f : Nat → Int} : ∀ i, ((List.range i).map f).Nodup → (firstMet f i).length = i
  | 0, _ => rfl
  | i + 1, h => by
    rw [List.range_succ, List.map_append] at h
    obtain ⟨h1, _, h3⟩ := List.nodup_append.mp h
    have hl := firstMet_nd i h1
    obtain ⟨e, _⟩ := firstMet_few i hl
    rw [firstMet_succ]
    unfold step_dedup
    rw [if_neg, List.length_append, hl]
    · rfl
    · intro z
      obtain ⟨x, hx, q⟩ := List.any_eq_true.mp z
      rw [e] at hx
      exact h3 x hx (f i) (List.mem_singleton.mpr rfl) (eq_of_beq q)
theorem map_getD (ns : List Int) : (List.range ns.length).map (fun i => ns.getD i 0) = ns := by
  refine List.ext_getElem? fun i => ?_
  rw [List.getElem?_map]
  by_cases h : i < ns.length
  · rw [List.getElem?_range h, List.getElem?_eq_getElem h]
    show some (ns.getD i 0) = _
    rw [List.getD_eq_getElem?_getD, List.getElem?_eq_getElem h]
    rfl
  · rw [List.getElem?_eq_none (by simpa using h), List.getElem?_eq_none (by omega)]
    rfl
/-- as many as the list has exactly if they are distinct -/
def tLenSetN (K : PySem.W.Frag) (ta : TE) : TE := fun σ H Q => ta σ H fun x H1 => ∃ (l : Addr) (ns : List Int), x = .ref l ∧ SqL K H1 l (ns.map V.int) ∧ ns.length ≤ 4000 ∧ ∀ m : Nat, (m = ns.length ↔ ns.Nodup) → Q (.int (m : Int)) H1
theorem pe_lenSetN {X : Cx} {a : Expr} {ta : TE} {p p2 q pos : Pos} (hg : Gl X "len") (hm : X.mg "len" = none) (hg2 : Gl X "set") (hm2 : X.mg "set" = none) (ha : PE X a ta) (hc : X.calm = true := by rfl)
    (one : starEach [a] X.env = (false, eval a X.env) :: starEach [] X.env := by rfl) : PE X (.Call (.Name "len" p) [.Call (.Name "set" p2) [a] [] q] [] pos) (tLenSetN X.K ta) := by
  constructor
  intro pins s σ H Q I h
  refine Call_ (ld_blt I hg hm boot_len (callWith_builtin1 (args_cons ?_ rfl) rfl rfl))
  refine Call_ (ld_blt I hg2 hm2 boot_set (callWith_type1 (args_cons (thn (ha.run pins s σ H _ I h) fun v s1 ⟨x, H1, I1, r1, q1⟩ => args_nil ?_) one) one rfl))
  obtain ⟨l, ns, rfl, hq, few, q1⟩ := q1
  cases r1
  obtain ⟨its, r, pl, _⟩ := I1.list hq
  have size : its.toArray.size = ns.length := by rw [List.size_toArray, ← r.length, List.length_map]
  refine call_set_list (I1.ok.hd hc) pl.isList (by simpa using r.ints) (by rw [size]; unfold scanBound; omega) fun h' tk hS hk => args_nil ?_
  rw [size] at hS
  have I2 : Inv X pins σ H1 { s1 with heap := h', toks := tk } := I1.kept fun b o e => hk b o (Heap.lt_size e) e
  have le := firstMet_length_le (fun i => ns.getD i 0) ns.length
  have same : (firstMet (fun i => ns.getD i 0) ns.length).length = ns.length ↔ ns.Nodup := by
    constructor
    · intro z
      have nd := (firstMet_few _ z).2
      rwa [map_getD] at nd
    · intro z
      refine firstMet_nd _ ?_
      rw [map_getD]
      exact z
  generalize (firstMet (fun i => ns.getD i 0) ns.length).length = m at hS le same
  obtain ⟨o, es, ep, t, ho, hex, hd, _, _, _, hf, hn⟩ := hS
  exact call_len_set ho hex hd hf (by rw [hn]; omega) ⟨.int (m : Int), H1, I2.tok _, ⟨_, by rw [hn]⟩, q1 m same⟩
end L2
namespace RS
open PySem L2 Cmb
/-! ### lists of gaps whose differences are distinct -/
theorem pos_mem {gs : List Int} (h : ∀ g ∈ gs, 1 ≤ g) {k : Nat} (hk : k < gs.length) : 1 ≤ gs[k] := h _ (List.getElem_mem hk)
theorem pre_step {gs : List Int} {k : Nat} (hk : k < gs.length) : pre gs (k + 1) = pre gs k + gs[k] := pre_succ gs (List.getElem?_eq_getElem hk)
theorem pre_lt {gs : List Int} (h : ∀ g ∈ gs, 1 ≤ g) {i j : Nat} (hij : i < j) (hj : j ≤ gs.length) : pre gs i < pre gs j := by
  induction j with
  | zero => omega
  | succ j ih =>
    have s := pre_step (gs := gs) (k := j) (by omega)
    have p := pos_mem h (k := j) (by omega)
    by_cases e : i = j
    · subst e
      omega
    · have := ih (by omega) (by omega)
      omega
theorem pre_inj {gs : List Int} (h : ∀ g ∈ gs, 1 ≤ g) {i j : Nat} (hi : i ≤ gs.length) (hj : j ≤ gs.length) (e : pre gs i = pre gs j) : i = j := by
  rcases Nat.lt_trichotomy i j with z | z | z
  · have := pre_lt h z hj
    omega
  · exact z
  · have := pre_lt h z hi
    omega
def dif2 (gs : List Int) (p : Nat × Nat) : Int := pre gs p.2 - pre gs p.1
/-- the differences, in the order of the pairs -/
def Ds (gs : List Int) : List Int := (pairsOf (gs.length + 1)).map (dif2 gs)
def Spr (gs : List Int) : Prop := (Ds gs).Nodup
theorem nodup_map_iff {α : Type} {l : List α} {f : α → Int} (nd : l.Nodup) : (l.map f).Nodup ↔ ∀ x ∈ l, ∀ y ∈ l, f x = f y → x = y := by
  constructor
  · intro h x hx y hy e
    obtain ⟨i, hi, rfl⟩ := List.getElem_of_mem hx
    obtain ⟨j, hj, rfl⟩ := List.getElem_of_mem hy
    have p := List.pairwise_iff_getElem.mp (List.pairwise_map.mp h)
    rcases Nat.lt_trichotomy i j with z | z | z
    · exact absurd e (p i j hi hj z)
    · subst z
      rfl
    · exact absurd e.symm (p j i hj hi z)
  · intro h
    refine List.pairwise_map.mpr (List.pairwise_iff_getElem.mpr fun i j hi hj hij e => ?_)
    exact List.pairwise_iff_getElem.mp nd i j hi hj hij (h _ (List.getElem_mem hi) _ (List.getElem_mem hj) e)
theorem spr_iff {gs : List Int} : Spr gs ↔ ∀ i j k l, i < j → j ≤ gs.length → k < l → l ≤ gs.length → pre gs j - pre gs i = pre gs l - pre gs k → i = k ∧ j = l := by
  unfold Spr Ds
  rw [nodup_map_iff (pairs_nodup _)]
  constructor
  · intro h i j k l h1 h2 h3 h4 e
    have := h (i, j) (mem_pairs.mpr ⟨h1, by show j < gs.length + 1; omega⟩) (k, l) (mem_pairs.mpr ⟨h3, by show l < gs.length + 1; omega⟩) e
    exact ⟨congrArg Prod.fst this, congrArg Prod.snd this⟩
  · rintro h ⟨i, j⟩ hx ⟨k, l⟩ hy e
    obtain ⟨h1, h2⟩ := mem_pairs.mp hx
    obtain ⟨h3, h4⟩ := mem_pairs.mp hy
    have h1 : i < j := h1
    have h2 : j < gs.length + 1 := h2
    have h3 : k < l := h3
    have h4 : l < gs.length + 1 := h4
    obtain ⟨rfl, rfl⟩ := h i j k l h1 (by omega) h3 (by omega) e
    rfl
theorem mem_Ds {gs : List Int} {d : Int} : d ∈ Ds gs ↔ ∃ i j, i < j ∧ j ≤ gs.length ∧ pre gs j - pre gs i = d := by
  unfold Ds
  rw [List.mem_map]
  constructor
  · rintro ⟨⟨i, j⟩, hp, e⟩
    obtain ⟨h1, h2⟩ := mem_pairs.mp hp
    exact ⟨i, j, h1, by have h2 : j < gs.length + 1 := h2; omega, e⟩
  · rintro ⟨i, j, h1, h2, e⟩
    exact ⟨(i, j), mem_pairs.mpr ⟨h1, by show j < gs.length + 1; omega⟩, e⟩
theorem rows_len {n : Nat} : ∀ k, k ≤ n → (rows n k).length ≤ n * k
  | 0, _ => Nat.zero_le _
  | k + 1, h => by
    show (row n (n - (k + 1)) ++ rows n k).length ≤ _
    have := rows_len (n := n) k (by omega)
    rw [List.length_append, Nat.mul_succ]
    have : (row n (n - (k + 1))).length ≤ n := by
      unfold row
      rw [List.length_map, List.length_range]
      omega
    omega
theorem pairs_len (n : Nat) : (pairsOf n).length ≤ n * n := rows_len n (Nat.le_refl n)
theorem Ds_len (gs : List Int) : (Ds gs).length ≤ (gs.length + 1) * (gs.length + 1) := by
  unfold Ds
  rw [List.length_map]
  exact pairs_len _
theorem pre_snoc {gs : List Int} {g : Int} {k : Nat} (hk : k ≤ gs.length) : pre (gs ++ [g]) k = pre gs k := by
  unfold pre
  rw [List.take_append_of_le_length hk]
theorem pre_lastS {gs : List Int} {g : Int} : pre (gs ++ [g]) (gs.length + 1) = pre gs gs.length + g := by
  have s := pre_step (gs := gs ++ [g]) (k := gs.length) (by simp)
  rw [s, pre_snoc (Nat.le_refl _)]
  simp
/-- with one more gap -/
theorem spr_snoc {gs : List Int} {g : Int} (pos : ∀ x ∈ gs, 1 ≤ x) : Spr (gs ++ [g]) ↔ Spr gs ∧ ∀ i ≤ gs.length, pre gs gs.length - pre gs i + g ∉ Ds gs := by
  rw [spr_iff, spr_iff]
  have hl : (gs ++ [g]).length = gs.length + 1 := by simp
  rw [hl]
  constructor
  · intro h
    refine ⟨fun i j k l h1 h2 h3 h4 e => h i j k l h1 (by omega) h3 (by omega) ?_, fun i hi hm => ?_⟩
    · rw [pre_snoc (by omega), pre_snoc (by omega), pre_snoc (by omega), pre_snoc (by omega)]
      exact e
    · obtain ⟨k, l, h3, h4, e⟩ := mem_Ds.mp hm
      have := h i (gs.length + 1) k l (by omega) (Nat.le_refl _) h3 (by omega) (by
        rw [pre_lastS, pre_snoc hi, pre_snoc (by omega), pre_snoc (by omega), e]
        omega)
      omega
  · rintro ⟨h, no⟩ i j k l h1 h2 h3 h4 e
    by_cases hj : j ≤ gs.length <;> by_cases hm : l ≤ gs.length
    · rw [pre_snoc (by omega), pre_snoc (by omega), pre_snoc (by omega), pre_snoc (by omega)] at e
      exact h i j k l h1 hj h3 hm e
    · have el : l = gs.length + 1 := by omega
      subst el
      rw [pre_lastS, pre_snoc (by omega), pre_snoc (by omega), pre_snoc (by omega)] at e
      exact absurd (mem_Ds.mpr ⟨i, j, h1, hj, by omega⟩) (no k (by omega))
    · have el : j = gs.length + 1 := by omega
      subst el
      rw [pre_lastS, pre_snoc (by omega), pre_snoc (by omega), pre_snoc (by omega)] at e
      exact absurd (mem_Ds.mpr ⟨k, l, h3, hm, by omega⟩) (no i (by omega))
    · have e1 : j = gs.length + 1 := by omega
      have e2 : l = gs.length + 1 := by omega
      subst e1 e2
      rw [pre_lastS, pre_snoc (by omega), pre_snoc (by omega)] at e
      exact ⟨pre_inj pos (by omega) (by omega) (by omega), rfl⟩
theorem spr_nil : Spr [] := spr_iff.mpr fun i j k l h1 h2 h3 h4 _ => by
  have h2 : j ≤ 0 := h2
  omega
theorem sum_rev : ∀ l : List Int, l.reverse.sum = l.sum
  | [] => rfl
  | x :: l => by
    rw [List.reverse_cons, List.sum_append, sum_rev l, List.sum_cons]
    show l.sum + (x + 0) = x + l.sum
    omega
theorem pre_rev {gs : List Int} {k : Nat} (hk : k ≤ gs.length) : pre gs.reverse k = pre gs gs.length - pre gs (gs.length - k) := by
  unfold pre
  have e : (gs.take (gs.length - k)).sum + (gs.drop (gs.length - k)).sum = gs.sum := by rw [← List.sum_append, List.take_append_drop]
  rw [List.take_reverse, sum_rev, List.take_length]
  omega
/-- reversed -/
theorem spr_rev {gs : List Int} (h : Spr gs) : Spr gs.reverse := spr_iff.mpr fun i j k l h1 h2 h3 h4 e => by
  rw [List.length_reverse] at h2 h4
  rw [pre_rev (by omega), pre_rev (by omega), pre_rev (by omega), pre_rev (by omega)] at e
  have := spr_iff.mp h (gs.length - j) (gs.length - i) (gs.length - l) (gs.length - k) (by omega) (by omega) (by omega) (by omega) (by omega)
  omega
theorem pre_part {gs : List Int} {f m k : Nat} (hk : k ≤ ((gs.drop f).take m).length) : pre ((gs.drop f).take m) k = pre gs (f + k) - pre gs f := by
  rw [List.length_take, List.length_drop] at hk
  unfold pre
  rw [List.take_take, show min k m = k by omega, List.take_add, List.sum_append]
  omega
/-- a part -/
theorem spr_part {gs : List Int} {f m : Nat} (h : Spr gs) : Spr ((gs.drop f).take m) := spr_iff.mpr fun i j k l h1 h2 h3 h4 e => by
  rw [pre_part (by omega), pre_part (by omega), pre_part (by omega), pre_part (by omega)] at e
  rw [List.length_take, List.length_drop] at h2 h4
  have := spr_iff.mp h (f + i) (f + j) (f + k) (f + l) (by omega) (by omega) (by omega) (by omega) (by omega)
  omega
/-- twice behind one another -/
theorem spr_twice {gs : List Int} : Spr (gs ++ gs) ↔ gs = [] := by
  constructor
  · intro h
    match gs, h with
    | [], _ => rfl
    | g :: r, h =>
      have hl : ((g :: r) ++ (g :: r)).length = (r.length + 1) + (r.length + 1) := by rw [List.length_append, List.length_cons]
      have s1 := pre_step (gs := (g :: r) ++ (g :: r)) (k := 0) (by rw [hl]; omega)
      have s2 := pre_step (gs := (g :: r) ++ (g :: r)) (k := r.length + 1) (by rw [hl]; omega)
      have g1 : ((g :: r) ++ (g :: r))[0]'(by rw [hl]; omega) = g := rfl
      have g2 : ((g :: r) ++ (g :: r))[r.length + 1]'(by rw [hl]; omega) = g := by
        rw [List.getElem_append_right (by simp)]
        simp
      rw [g1] at s1
      rw [g2] at s2
      have s1 : pre ((g :: r) ++ (g :: r)) 1 = _ := s1
      have s2 : pre ((g :: r) ++ (g :: r)) (r.length + 2) = _ := s2
      have := spr_iff.mp h 0 1 (r.length + 1) (r.length + 2) (by omega) (by rw [hl]; omega) (by omega) (by rw [hl]; omega) (by omega)
      omega
  · rintro rfl
    exact spr_nil
/-! the differences row by row -/
def upto (n : Nat) : Nat → List (Nat × Nat)
  | 0 => []
  | k + 1 => upto n k ++ row n k
theorem upto_all {n : Nat} : ∀ k, k ≤ n → upto n k ++ rows n (n - k) = pairsOf n
  | 0, _ => rfl
  | k + 1, h => by
    have ih := upto_all (n := n) k (by omega)
    rw [show n - k = (n - (k + 1)) + 1 by omega] at ih
    have e : rows n ((n - (k + 1)) + 1) = row n k ++ rows n (n - (k + 1)) := by
      show row n (n - ((n - (k + 1)) + 1)) ++ _ = _
      rw [show n - ((n - (k + 1)) + 1) = k by omega]
    rw [e, ← List.append_assoc] at ih
    exact ih
theorem upto_Ds (gs : List Int) : (upto (gs.length + 1) gs.length).map (dif2 gs) = Ds gs := by
  have h := upto_all (n := gs.length + 1) gs.length (by omega)
  rw [show gs.length + 1 - gs.length = 0 + 1 by omega] at h
  have e : rows (gs.length + 1) (0 + 1) = [] := by
    show row (gs.length + 1) (gs.length + 1 - (0 + 1)) ++ [] = []
    unfold row
    rw [show gs.length + 1 - (gs.length + 1 - (0 + 1) + 1) = 0 by omega]
    rfl
  rw [e, List.append_nil] at h
  unfold Ds
  rw [h]
theorem upto_len {n : Nat} : ∀ k, (upto n k).length ≤ n * k
  | 0 => Nat.zero_le _
  | k + 1 => by
    show (upto n k ++ row n k).length ≤ _
    have := upto_len (n := n) k
    rw [List.length_append, Nat.mul_succ]
    have : (row n k).length ≤ n := by
      unfold row
      rw [List.length_map, List.length_range]
      omega
    omega
end RS
namespace RS
open PySem L2 Cmb
section
variable {P : Program} {w : World} {K : PySem.W.Frag} {mg : Str → Option Value} {base : Heap}
/-! ### _differences -/
def spDf : Sp := fun vs H Q _ => ∃ (a : Addr) (gs : List Int), vs = [.ref a] ∧ H a = some (.lst (gs.map V.int)) ∧ gs.length ≤ 20 ∧ ∀ q H', H q = none → Same H H' → H' q = some (.lst ((Ds gs).map V.int)) → Q (.ref q) H'
def dfN : List Str := ["gaps", "offsets", "earlier", "later"]
theorem scDf : FnScope dfN ["gaps"] (defScope s_differences) := ⟨rfl, rfl, rfl, by decide +kernel, rfl, by decide +kernel, by decide +kernel⟩
theorem ok_df {f fS : Addr} {fd fdS : FuncData} (F : Fun K "_differences" "_differences" s_differences f fd) (mC : mg "combinations" = some (.type "itertools.combinations"))
    (GS : FnOk P w K mg base CX0 1 fS fdS ["gaps"] spSums) (bS : Binds K fdS ["gaps"] []) (mS : mg "sums" = some (.ref fS)) (kS : PySem.W.keepIn K (.ref fS) = true) : FnOk P w K mg base CX0 2 f fd ["gaps"] spDf := by
  refine F.ok scDf (fun vs H Q E h => ?_) (fun cdv A outer s H vs Q E hr h => ?_)
  · obtain ⟨a, gs, rfl, _⟩ := h
    rfl
  · obtain ⟨a, gs, rfl, ha, hl, k⟩ := h
    refine ⟨_, (pss_cons (ps_set (i := 1) scDf.nd rfl (Or.inl rfl) (pe_call GS hr rfl mS kS bS .nil pass0 (pa_cons (pv 0) pa_nil))) (pss_one (ps_ret (pe_lc (own := [("earlier", 2), ("later", 3)]) (g := gTup K 2 (gCons (gName 2) (gCons (gName 3) gNil))) (tt := tYes) rfl scDf.nd (Cmb.pi_pairs rfl mC (pa_cons (pv 1) (pa_cons pe_int pa_nil))) (blkOk_by (own := [("earlier", 2), ("later", 3)]) (N := dfN) (sc := defScope s_differences) (by decide +kernel))
        (fun _ _ _ _ _ => pg_tup rfl (pgs_cons (pg_name (i := 2) scDf.nd rfl (Or.inl rfl)) (pgs_cons (pg_name (i := 3) scDf.nd rfl (Or.inl rfl)) pgs_nil))) (fun _ _ _ _ _ => pts_nil) (fun _ _ _ _ _ => (pe_op op_sub (pv 3) (pv 2))))))), ?_⟩
    refine ⟨_, rfl, a, gs, rfl, ha, by omega, fun o H1 ho S1 ho1 => ?_⟩
    have lo : ((offs gs).map V.int).length = gs.length + 1 := by rw [List.length_map, offs_len]
    have pl := Ds_len gs
    have dl : (Ds gs).length = (pairsOf (gs.length + 1)).length := by unfold Ds; rw [List.length_map]
    have pl2 : (gs.length + 1) * (gs.length + 1) ≤ 21 * 21 := Nat.mul_le_mul (by omega) (by omega)
    refine ⟨_, rfl, o, _, rfl, SqL.of ho1, fun D hD => lc_it walk_pairs (fun i H' => Same H1 H' ∧ H' D = some (.lst (((Ds gs).take i).map V.int))) ⟨same_new hD, by rw [upd_same]; rfl⟩ (fun _ _ _ _ => trivial) (fun i x H2 H3 hi z y => ?_) (fun H2 z => ?_)⟩
    · obtain ⟨T, x', y', i1, i2, rfl, hT, rfl, hp, hx, hy⟩ := y
      rw [lo] at hp hi
      obtain ⟨h1, h2⟩ := mem_pairs.mp (List.mem_of_getElem? hp)
      have h1 : i1 < i2 := h1
      have h2 : i2 < gs.length + 1 := h2
      rw [List.getElem?_map, offs_get gs (by omega)] at hx hy
      obtain rfl := (Option.some.inj hx).symm
      obtain rfl := (Option.some.inj hy).symm
      have sT := same_new (o := .tup [V.int (pre gs i1), V.int (pre gs i2)]) hT
      have hD3 := sT _ _ z.2
      have S3 := z.1.trans sT
      refine ⟨T, _, rfl, SqT.of upd_same, rfl, _, _, rfl, _, _, rfl, rfl, rfl, yes_t (iteT ?_)⟩
      refine ⟨_, rfl, _, rfl, _, _, rfl, rfl, _, hD3, ?_, same_app hD S3, ?_⟩
      · rw [List.length_map]
        have := List.length_take_le i (Ds gs)
        exact small1000 (by omega)
      · rw [upd_same]
        have e : (Ds gs)[i]? = some (pre gs i2 - pre gs i1) := by
          unfold Ds
          rw [List.getElem?_map, hp]
          rfl
        rw [List.take_add_one, e, List.map_append]
        rfl
    · rw [lo, ← dl, List.take_length] at z
      exact k D H2 (S1.free hD) (S1.trans z.1) z.2
end
end RS
namespace L2
open PySem PySem.Spec PyProof.Rows
/-- a dict comprehension over a walk -/
theorem dc_it {J : It} {n : Nat} {G : Hp → Prop} {Y : Nat → Hp → V → Hp → Prop} (w : Walk J n G Y) {g : TG} {tt : TT} {tk tv : TE} {vs : List Nat} {σ : St} {H1 : Hp} {D : Addr} {Qd : Hp → Prop} (Pv : Nat → Hp → Prop) (h0 : Pv 0 (upd H1 D (.dK []))) (hG : ∀ i H, i ≤ n → Pv i H → G H)
    (hs : ∀ i x H H', i < n → Pv i H → Y i H x H' → g x (wipe σ vs) H' fun σ2 H2 => wipe σ2 vs = wipe σ vs ∧ tt σ2 H2 fun b H3 =>
      if b = true then tk σ2 H3 fun y H4 => tv σ2 H4 fun z H5 => ∃ kvs k, y = kV k ∧ H5 D = some (.dK kvs) ∧ kvs.length < sizeLine ∧ Pv (i + 1) (upd H5 D (.dK (putK kvs k z))) else Pv (i + 1) H3) (hd : ∀ H, Pv n H → Qd H) :
    ∃ W : Nat → Nat → Hp → Prop, (∃ m, W 0 m (upd H1 D (.dK []))) ∧ ∀ i m H, W i m H →
      (J.stop i H ∧ Qd H) ∨ (J.go i H ∧ ∃ Nx : Hp → Prop, (∀ H', Nx H' → ∃ m', m' < m ∧ W (i + 1) m' H') ∧ ∀ x H', J.yld i H x H' → g x (wipe σ vs) H' fun σ2 H2 => wipe σ2 vs = wipe σ vs ∧ tt σ2 H2 fun b H3 =>
        if b = true then tk σ2 H3 fun y H4 => tv σ2 H4 fun z H5 => ∃ kvs k, y = kV k ∧ H5 D = some (.dK kvs) ∧ kvs.length < sizeLine ∧ Nx (upd H5 D (.dK (putK kvs k z))) else Nx H3) := by
  let W : Nat → Nat → Hp → Prop := fun i m H => i + m = n ∧ Pv i H
  refine ⟨W, ⟨n, Nat.zero_add n, h0⟩, fun i m H ⟨im, p⟩ => ?_⟩
  have q := hG i H (by omega) p
  match m, im with
  | 0, im =>
    have e : i = n := im
    subst e
    exact .inl ⟨w.stops H q, hd H p⟩
  | m + 1, im => exact .inr ⟨w.goes i H (by omega) q, Pv (i + 1), fun H' p' => ⟨m, Nat.lt_succ_self m, by show i + 1 + m = n; omega, p'⟩, fun x H' y => hs i x H H' (by omega) p (w.yields i H x H' (by omega) q y)⟩
end L2
namespace RS
open PySem L2 Cmb
instance {gs : List Int} : Decidable (Spr gs) := inferInstanceAs (Decidable (Ds gs).Nodup)
/-- the ways from the last offset back -/
def ways (gs : List Int) : List Int := (offs gs).map fun o => pre gs gs.length - o
theorem mem_ways {gs : List Int} {x : Int} : x ∈ ways gs ↔ ∃ i, i ≤ gs.length ∧ x = pre gs gs.length - pre gs i := by
  unfold ways offs
  rw [List.map_map, List.mem_map]
  constructor
  · rintro ⟨i, hi, rfl⟩
    have := List.mem_range.mp hi
    exact ⟨i, by omega, rfl⟩
  · rintro ⟨i, hi, rfl⟩
    exact ⟨i, List.mem_range.mpr (by omega), rfl⟩
/-- which numbers are keys -/
def KeysAre (kvs : List (Key × V)) (ds : List Int) : Prop := ∀ i : Int, (valV kvs (Sum.inl i)).isSome = decide (i ∈ ds)
def fitB (ws ds : List Int) (g : Int) : Bool := !ws.any fun x => decide (x + g ∈ ds)
theorem fit_spr {gs : List Int} (pos : ∀ x ∈ gs, 1 ≤ x) (h : Spr gs) (g : Int) : fitB (ways gs) (Ds gs) g = decide (Spr (gs ++ [g])) := by
  unfold fitB
  rw [Bool.eq_iff_iff, Bool.not_eq_true', List.any_eq_false, decide_eq_true_iff, spr_snoc pos]
  constructor
  · intro z
    refine ⟨h, fun i hi hm => ?_⟩
    have := z _ (mem_ways.mpr ⟨i, hi, rfl⟩)
    rw [decide_eq_true_iff] at this
    exact this hm
  · rintro ⟨_, z⟩ x hx
    obtain ⟨i, hi, rfl⟩ := mem_ways.mp hx
    rw [decide_eq_true_iff]
    exact z i hi
section
variable {P : Program} {w : World} {K : PySem.W.Frag} {mg : Str → Option Value} {base : Heap}
/-! ### _ways_back -/
def spWb : Sp := fun vs H Q _ => ∃ (a : Addr) (gs : List Int), vs = [.ref a] ∧ H a = some (.lst (gs.map V.int)) ∧ gs.length ≤ 20 ∧ ∀ q H', H q = none → Same H H' → H' q = some (.lst ((ways gs).map V.int)) → Q (.ref q) H'
def wbN : List Str := ["gaps", "offsets", "offset"]
theorem scWb : FnScope wbN ["gaps"] (defScope s_ways_back) := ⟨rfl, rfl, rfl, by decide +kernel, rfl, by decide +kernel, by decide +kernel⟩
theorem ok_wb {f fS : Addr} {fd fdS : FuncData} (F : Fun K "_ways_back" "_ways_back" s_ways_back f fd)
    (GS : FnOk P w K mg base CX0 1 fS fdS ["gaps"] spSums) (bS : Binds K fdS ["gaps"] []) (mS : mg "sums" = some (.ref fS)) (kS : PySem.W.keepIn K (.ref fS) = true) : FnOk P w K mg base CX0 2 f fd ["gaps"] spWb := by
  refine F.ok scWb (fun vs H Q E h => ?_) (fun cdv A outer s H vs Q E hr h => ?_)
  · obtain ⟨a, gs, rfl, _⟩ := h
    rfl
  · obtain ⟨a, gs, rfl, ha, hl, k⟩ := h
    refine ⟨_, (pss_cons (ps_set (i := 1) scWb.nd rfl (Or.inr rfl) (pe_call GS hr rfl mS kS bS .nil pass0 (pa_cons (pv 0) pa_nil))) (pss_one (ps_ret (pe_lc (own := [("offset", 2)]) (g := gName 2) (tt := tYes) rfl scWb.nd (pi_list (pv 1)) (blkOk_by (own := [("offset", 2)]) (N := wbN) (sc := (defScope s_ways_back)) (by decide +kernel)) (fun _ _ _ _ _ => (pg_name (i := 2) scWb.nd rfl (Or.inl rfl))) (fun _ _ _ _ _ => pts_nil) (fun _ _ _ _ _ => (pe_op op_sub (pe_ix (r := rIxL K) ix_list (pv 1) (pe_un un_neg pe_int) (fun _ _ => rfl)) (pv 2))))))), ?_⟩
    refine ⟨_, rfl, a, gs, rfl, ha, by omega, fun o H1 ho S1 ho1 => ?_⟩
    have lo : (offs gs).length = gs.length + 1 := offs_len gs
    refine ⟨_, rfl, o, rfl, ⟨_, SqL.of ho1⟩, fun D hD => lc_map (a := o) (xs := (offs gs).map V.int) ((ways gs).map V.int) (SqL.of ho1) hD (by unfold ways; simp) (by rw [List.length_map]; omega) (fun i x y H2 Q2 hx hy S2 q => ?_) (fun H2 S2 h2 => k D H2 (S1.free hD) (S1.trans S2) h2)⟩
    obtain ⟨z, hz, rfl⟩ := map_of hx
    obtain ⟨z2, hz2, rfl⟩ := map_of hy
    have e2 : z2 = pre gs gs.length - z := by
      unfold ways at hz2
      rw [List.getElem?_map, hz] at hz2
      exact (Option.some.inj hz2).symm
    subst e2
    have hl2 : ((offs gs).map V.int).length = gs.length + 1 := by rw [List.length_map]; exact lo
    refine ⟨rfl, ?_⟩
    refine ⟨_, rfl, _, rfl, o, _, _, _, rfl, rfl, SqL.of (S2 _ _ ho1), at_back1 (v := .int (pre gs gs.length)) (by rw [hl2]; omega) ?_, _, rfl, _, _, rfl, rfl, q H2 (Same.refl _)⟩
    rw [hl2, List.getElem?_map, show gs.length + 1 - 1 = gs.length by omega, offs_get gs (Nat.le_refl _)]
    rfl
/-! ### _fits -/
def spFt : Sp := fun vs H Q _ => ∃ (g : Int) (wl t : Addr) (ws ds : List Int) (kvs : List (Key × V)), vs = [.int g, .ref wl, .ref t] ∧ H wl = some (.lst (ws.map V.int)) ∧ ws.length ≤ 100 ∧ H t = some (.dK kvs) ∧ KeysAre kvs ds ∧ ∀ H', Same H H' → Q (.bl (fitB ws ds g)) H'
def ftN : List Str := ["gap", "ways", "taken", "way"]
theorem scFt : FnScope ftN ["gap", "ways", "taken"] (defScope s_fits) := ⟨rfl, rfl, rfl, by decide +kernel, rfl, by decide +kernel, by decide +kernel⟩
theorem ok_ft {f C : Addr} {fd : FuncData} (F : Fun K "_fits" "_fits" s_fits f fd) (T : Txt K mg C) : FnOk P w K mg base CX0 1 f fd ["gap", "ways", "taken"] spFt := by
  refine F.ok scFt (fun vs H Q E h => ?_) (fun cdv A outer s H vs Q E hr h => ?_)
  · obtain ⟨g, wl, t, ws, ds, kvs, rfl, _⟩ := h
    rfl
  · obtain ⟨g, wl, t, ws, ds, kvs, rfl, hw, hl, ht, hk, k⟩ := h
    have hu := hu_of hr
    refine ⟨_, (pss_one (ps_ret (pe_not (pe_callB (cr_any rfl) (by rfl) T.any (by decide +kernel) (pa_cons (pe_lc (own := [("way", 3)]) (g := gName 3) (tt := tYes) rfl scFt.nd (pi_list (pv 1)) (blkOk_by (own := [("way", 3)]) (N := ftN) (sc := (defScope s_fits)) (by decide +kernel)) (fun _ _ _ _ _ => (pg_name (i := 3) scFt.nd rfl (Or.inl rfl))) (fun _ _ _ _ _ => pts_nil) (fun _ _ _ _ _ => (pe_cmp (pc_din hu (pe_op op_add (pv 3) (pv 0)) (pv 2))))) pa_nil))))), ?_⟩
    refine ⟨_, rfl, wl, rfl, ⟨_, SqL.of hw⟩, fun D hD => lc_map (a := wl) (xs := ws.map V.int) ((ws.map fun x => decide (x + g ∈ ds)).map V.bl) (SqL.of hw) hD (by simp) (by rw [List.length_map]; omega) (fun i x y H2 Q2 hx hy S2 q => ?_) (fun H2 S2 h2 => ?_)⟩
    · obtain ⟨z, hz, rfl⟩ := map_of hx
      rw [List.getElem?_map, List.getElem?_map, hz] at hy
      obtain rfl := (Option.some.inj hy).symm
      refine ⟨rfl, ?_⟩
      refine ⟨_, rfl, _, rfl, _, _, rfl, rfl, _, rfl, t, _, rfl, DGet.k (k := (Sum.inl (z + g) : Key)) (S2 _ _ ht), ?_⟩
      rw [hk]
      exact q H2 (Same.refl _)
    · refine ⟨D, _, rfl, SqL.of h2, ?_⟩
      refine ⟨_, rfl, ?_⟩
      have e : (!((ws.map fun x => decide (x + g ∈ ds)).any id)) = fitB ws ds g := by
        unfold fitB
        rw [List.any_map]
        rfl
      show Q (.bl (!((ws.map fun x => decide (x + g ∈ ds)).any id))) H2
      rw [e]
      exact k H2 S2
end
end RS
namespace RS
open PySem L2 Cmb
section
variable {P : Program} {w : World} {K : PySem.W.Frag} {mg : Str → Option Value} {base : Heap}
/-! ### is_spread_list -/
def spIl : Sp := fun vs H Q _ => ∃ (a : Addr) (gs : List Int), vs = [.ref a] ∧ H a = some (.lst (gs.map V.int)) ∧ GapsOk gs ∧ gs.length ≤ 12 ∧ ∀ H', Same H H' → Q (.bl (decide (Spr gs))) H'
theorem scIl : FnScope ["gaps", "differences"] ["gaps"] (defScope s_is_spread_list) := ⟨rfl, rfl, rfl, by decide +kernel, rfl, by decide +kernel, by decide +kernel⟩
theorem ok_il {f C fA fD : Addr} {fd fdA fdD : FuncData} (F : Fun K "is_spread_list" "is_spread_list" s_is_spread_list f fd) (T : Txt K mg C) (mM : ∃ t, mg "MOST_GAPS_short" = some (.int 12 t))
    (GA : FnOk P w K mg base CX0 2 fA fdA ["value", "most"] spAreGaps) (bA : Binds K fdA ["value", "most"] []) (mA : mg "are_gaps" = some (.ref fA)) (kA : PySem.W.keepIn K (.ref fA) = true)
    (GD : FnOk P w K mg base CX0 2 fD fdD ["gaps"] spDf) (bD : Binds K fdD ["gaps"] []) (mD : mg "_differences" = some (.ref fD)) (kD : PySem.W.keepIn K (.ref fD) = true) : FnOk P w K mg base CX0 3 f fd ["gaps"] spIl := by
  obtain ⟨t12, m12⟩ := mM
  refine F.ok scIl (fun vs H Q E h => ?_) (fun cdv A outer s H vs Q E hr h => ?_)
  · obtain ⟨a, gs, rfl, _⟩ := h
    rfl
  · obtain ⟨a, gs, rfl, ha, ok, hl, k⟩ := h
    refine ⟨_, (pss_cons (ps_if (pt_not (pt_val (pe_call GA hr rfl mA kA bA .nil pass0 (pa_cons (pv 0) (pa_cons (pe_glob (v := .int 12) rfl m12 ⟨_, rfl⟩) pa_nil))))) (pss_one ps_never) pss_nil) (pss_cons (ps_set (i := 1) scIl.nd rfl (Or.inl rfl) (pe_call GD hr rfl mD kD bD .nil pass0 (pa_cons (pv 0) pa_nil))) (pss_one (ps_ret (pe_cmpR op_eq (pe_lenSetN rfl T.len rfl T.set (pv 1)) (pe_callB call_len_seq (by rfl) T.len (by decide +kernel) (pa_cons (pv 1) pa_nil)) (nomark _)))))), ?_⟩
    refine ⟨_, rfl, a, gs, 12, rfl, ha, ok, hl, fun H1 S1 => ⟨true, rfl, iteF ?_⟩⟩
    refine ⟨_, rfl, a, gs, rfl, S1 _ _ ha, by omega, fun q H2 hq S2 hq2 => ?_⟩
    have dl := Ds_len gs
    have d2 : (gs.length + 1) * (gs.length + 1) ≤ 21 * 21 := Nat.mul_le_mul (by omega) (by omega)
    refine ⟨_, rfl, q, Ds gs, rfl, SqL.of hq2, by omega, fun m hm => ?_⟩
    refine ⟨_, rfl, q, _, rfl, .inl (SqL.of hq2), rfl, ?_⟩
    have e : decide (V.int (m : Int) = V.int ((((Ds gs).map V.int).length : Nat) : Int)) = decide (Spr gs) := by
      rw [List.length_map]
      refine decide_eq_decide.mpr ?_
      rw [V.int.injEq]
      exact ⟨fun z => hm.mp (by omega), fun z => by rw [hm.mpr z]⟩
    rw [e]
    exact k H2 (S1.trans S2)
/-! ### the checks, accepted -/
def spCs : Sp := fun vs H Q _ => ∃ (a : Addr) (gs : List Int), vs = [.ref a] ∧ H a = some (.lst (gs.map V.int)) ∧ GapsOk gs ∧ gs.length ≤ 12 ∧ Spr gs ∧ ∀ H', Same H H' → Q .non H'
theorem scCs : FnScope ["gaps"] ["gaps"] (defScope s_check_spread) := ⟨rfl, rfl, rfl, by decide +kernel, rfl, by decide +kernel, by decide +kernel⟩
theorem ok_cs {f fI : Addr} {fd fdI : FuncData} (F : Fun K "_check_spread" "_check_spread" s_check_spread f fd)
    (GI : FnOk P w K mg base CX0 3 fI fdI ["gaps"] spIl) (bI : Binds K fdI ["gaps"] []) (mI : mg "is_spread_list" = some (.ref fI)) (kI : PySem.W.keepIn K (.ref fI) = true) : FnOk P w K mg base CX0 4 f fd ["gaps"] spCs := by
  refine F.ok scCs (fun vs H Q E h => ?_) (fun cdv A outer s H vs Q E hr h => ?_)
  · obtain ⟨a, gs, rfl, _⟩ := h
    rfl
  · obtain ⟨a, gs, rfl, ha, ok, hl, hS, k⟩ := h
    refine ⟨_, (pss_one (ps_if (pt_not (pt_val (pe_call GI hr rfl mI kI bI .nil pass0 (pa_cons (pv 0) pa_nil)))) (pss_one ps_never) pss_nil)), ?_⟩
    refine ⟨_, rfl, a, gs, rfl, ha, ok, hl, fun H1 S1 => ⟨_, rfl, ?_⟩⟩
    rw [decide_eq_true hS]
    exact iteF (k H1 S1)
def spRm : Sp := fun vs H Q _ => ∃ (a : Addr) (gs : List Int) (m : Int), vs = [.ref a, .int m] ∧ H a = some (.lst (gs.map V.int)) ∧ (gs.length : Int) + m ≤ 12 ∧ Q .non H
theorem scRm : FnScope ["gaps", "many"] ["gaps", "many"] (defScope s_check_room) := ⟨rfl, rfl, rfl, by decide +kernel, rfl, by decide +kernel, by decide +kernel⟩
theorem ok_rm {f C : Addr} {fd : FuncData} (F : Fun K "_check_room" "_check_room" s_check_room f fd) (T : Txt K mg C) (mM : ∃ t, mg "MOST_GAPS_short" = some (.int 12 t)) : FnOk P w K mg base CX0 1 f fd ["gaps", "many"] spRm := by
  obtain ⟨t12, m12⟩ := mM
  refine F.ok scRm (fun vs H Q E h => ?_) (fun cdv A outer s H vs Q E hr h => ?_)
  · obtain ⟨a, gs, m, rfl, _⟩ := h
    rfl
  · obtain ⟨a, gs, m, rfl, ha, hl, k⟩ := h
    refine ⟨_, (pss_one (ps_if (pt_cmpR op_gt (pe_op op_add (pe_callB call_len_seq (by rfl) T.len (by decide +kernel) (pa_cons (pv 0) pa_nil)) (pv 1)) (pe_glob (v := .int 12) rfl m12 ⟨_, rfl⟩) (nomark _)) (pss_one ps_never) pss_nil)), ?_⟩
    refine ⟨_, rfl, a, _, rfl, .inl (SqL.of ha), _, rfl, _, _, rfl, rfl, _, _, rfl, rfl, _, rfl, iteFb (decide_eq_false ?_) k⟩
    rw [List.length_map]
    omega
def spCbH : Sp := fun vs H Q _ => ∃ (s : Str) (v lo hi : Int), vs = [.str s, .int v, .int lo, .int hi] ∧ lo ≤ v ∧ v ≤ hi ∧ Q .non H
def cbNS : List Str := ["part", "value", "low", "high"]
theorem scCbS : FnScope cbNS cbNS (defScope s_check_bound) := ⟨rfl, rfl, rfl, by decide +kernel, rfl, by decide +kernel, by decide +kernel⟩
theorem ok_cbH {f C fI : Addr} {fd fdI : FuncData} (F : Fun K "check_bound" "check_bound" s_check_bound f fd) (T : Txt K mg C) (GI : FnOk P w K mg base CX0 1 fI fdI ["value"] spIsInt) (bI : Binds K fdI ["value"] []) (mI : mg "is_integer" = some (.ref fI)) (kI : PySem.W.keepIn K (.ref fI) = true) : FnOk P w K mg base CX0 2 f fd ["part", "value", "low", "high"] spCbH := by
  refine F.ok scCbS (fun vs H Q E h => ?_) (fun cdv A outer s H vs Q E hr h => ?_)
  · obtain ⟨z, v, lo, hi, rfl, _⟩ := h
    rfl
  · obtain ⟨z, v, lo, hi, rfl, h1, h2, k⟩ := h
    refine ⟨_, (pss_cons (ps_if (pt_not (pt_val (pe_call GI hr rfl mI kI bI .nil pass0 (pa_cons (pv 1) pa_nil)))) (pss_one ps_never) pss_nil) (pss_one (ps_if (PW.pt (pw_or (PW.pt (pw_and (pt_cmpR op_notN (pv 2) pe_non (nomark _)) (pw_and1 (pt_cmpR op_lt (pv 1) (pv 2) (nomark _))))) (pw_or1 (PW.pt (pw_and (pt_cmpR op_notN (pv 3) pe_non (nomark _)) (pw_and1 (pt_cmpR op_gt (pv 1) (pv 3) (nomark _)))))))) (pss_one ps_never) pss_nil))), ?_⟩
    refine ⟨_, rfl, v, rfl, true, rfl, iteF ?_⟩
    refine ⟨_, rfl, rfl, _, rfl, iteTb rfl ?_⟩
    refine ⟨_, rfl, _, rfl, _, _, rfl, rfl, _, rfl, iteFb (decide_eq_false (by omega)) ?_⟩
    refine ⟨_, rfl, rfl, _, rfl, iteTb rfl ?_⟩
    exact ⟨_, rfl, _, rfl, _, _, rfl, rfl, _, rfl, iteFb (decide_eq_false (by omega)) k⟩
/-! ### next_gaps -/
/-- the gaps up to m with which a list remains spread -/
def nextG (gs : List Int) (m : Nat) : List Int := ((List.range m).map fun (i : Nat) => (1 : Int) + (i : Int)).filter fun g => decide (Spr (gs ++ [g]))
def spNg : Sp := fun vs H Q _ => ∃ (a : Addr) (gs : List Int) (m : Nat), vs = [.ref a, .int (m : Int)] ∧ H a = some (.lst (gs.map V.int)) ∧ GapsOk gs ∧ gs.length ≤ 11 ∧ Spr gs ∧ 1 ≤ m ∧ m ≤ 2000 ∧ ∀ q H', H q = none → Same H H' → H' q = some (.lst ((nextG gs m).map V.int)) → Q (.ref q) H'
def ngN : List Str := ["gaps", "most", "ways", "taken", "difference", "gap"]
theorem scNg : FnScope ngN ["gaps", "most"] (defScope s_next_gaps) := ⟨rfl, rfl, rfl, by decide +kernel, rfl, by decide +kernel, by decide +kernel⟩
theorem selTo_filter (f : Nat → Int) (p : Int → Bool) : ∀ n, selTo (fun i => if p (f i) then some (.int (f i)) else none) n = (((List.range n).map f).filter p).map V.int
  | 0 => rfl
  | n + 1 => by
    rw [selTo_succ, selTo_filter f p n, List.range_succ, List.map_append, List.filter_append, List.map_append]
    congr 1
    show _ = ([f n].filter p).map V.int
    rw [List.filter_cons]
    cases p (f n) <;> rfl
theorem ok_ng {f C fS fR fB fW fD fF : Addr} {fd fdS fdR fdB fdW fdD fdF : FuncData} (F : Fun K "next_gaps" "next_gaps" s_next_gaps f fd) (T : Txt K mg C) (mW2 : ∃ t, mg "_WIDEST_GAP" = some (.int 2000 t))
    (GS : FnOk P w K mg base CX0 4 fS fdS ["gaps"] spCs) (bS : Binds K fdS ["gaps"] []) (mS : mg "_check_spread" = some (.ref fS)) (kS : PySem.W.keepIn K (.ref fS) = true)
    (GR : FnOk P w K mg base CX0 1 fR fdR ["gaps", "many"] spRm) (bR : Binds K fdR ["gaps", "many"] []) (mR : mg "_check_room" = some (.ref fR)) (kR : PySem.W.keepIn K (.ref fR) = true)
    (GB : FnOk P w K mg base CX0 2 fB fdB ["part", "value", "low", "high"] spCbH) (bB : Binds K fdB ["part", "value", "low", "high"] []) (mB : mg "check_bound" = some (.ref fB)) (kB : PySem.W.keepIn K (.ref fB) = true)
    (GW : FnOk P w K mg base CX0 2 fW fdW ["gaps"] spWb) (bW : Binds K fdW ["gaps"] []) (mW : mg "_ways_back" = some (.ref fW)) (kW : PySem.W.keepIn K (.ref fW) = true)
    (GD : FnOk P w K mg base CX0 2 fD fdD ["gaps"] spDf) (bD : Binds K fdD ["gaps"] []) (mD : mg "_differences" = some (.ref fD)) (kD : PySem.W.keepIn K (.ref fD) = true)
    (GF : FnOk P w K mg base CX0 1 fF fdF ["gap", "ways", "taken"] spFt) (bF : Binds K fdF ["gap", "ways", "taken"] []) (mF : mg "_fits" = some (.ref fF)) (kF : PySem.W.keepIn K (.ref fF) = true) : FnOk P w K mg base CX0 5 f fd ["gaps", "most"] spNg := by
  obtain ⟨tw, mw⟩ := mW2
  refine F.ok scNg (fun vs H Q E h => ?_) (fun cdv A outer s H vs Q E hr h => ?_)
  · obtain ⟨a, gs, m, rfl, _⟩ := h
    rfl
  · obtain ⟨a, gs, m, rfl, ha, ok, hl, hS, m1, m2, k⟩ := h
    have hr1 := hr.mono (show 1 ≤ 4 by decide)
    have hr2 := hr.mono (show 2 ≤ 4 by decide)
    refine ⟨_, (pss_cons (ps_expr (pe_call GS hr rfl mS kS bS .nil pass0 (pa_cons (pv 0) pa_nil))) (pss_cons (ps_expr (pe_call GR hr1 rfl mR kR bR .nil pass0 (pa_cons (pv 0) (pa_cons pe_int pa_nil)))) (pss_cons (ps_expr (pe_call GB hr2 rfl mB kB bB .nil pass0 (pa_cons pe_str (pa_cons (pv 1) (pa_cons pe_int (pa_cons (pe_glob (v := .int 2000) rfl mw ⟨_, rfl⟩) pa_nil)))))) (pss_cons (ps_set (i := 2) scNg.nd rfl (Or.inr rfl) (pe_call GW hr2 rfl mW kW bW .nil pass0 (pa_cons (pv 0) pa_nil))) (pss_cons (ps_set (i := 3) scNg.nd rfl (Or.inr rfl) (pe_dc (own := [("difference", 4)]) (g := gName 4) (tt := tYes) rfl scNg.nd (pi_list (pe_call GD hr2 rfl mD kD bD .nil pass0 (pa_cons (pv 0) pa_nil))) (blkOk_by (own := [("difference", 4)]) (N := ngN) (sc := defScope s_next_gaps) (by decide +kernel)) (fun _ _ _ _ _ => (pg_name (i := 4) scNg.nd rfl (Or.inl rfl))) (fun _ _ _ _ _ => pts_nil) (fun _ _ _ _ _ => pv 4) (fun _ _ _ _ _ => pe_bl))) (pss_one (ps_ret (pe_lc (own := [("gap", 5)]) (g := gName 5) rfl scNg.nd (pi_range2 rfl T.range (pa_cons pe_int (pa_cons (pe_op op_add (pv 1) pe_int) pa_nil))) (blkOk_by (own := [("gap", 5)]) (N := ngN) (sc := (defScope s_next_gaps)) (by decide +kernel)) (fun _ _ _ _ _ => (pg_name (i := 5) scNg.nd rfl (Or.inl rfl))) (fun _ _ _ _ _ => pts_one (pt_val (pe_call GF hr1 rfl mF kF bF .nil pass0 (pa_cons (pv 5) (pa_cons (pv 2) (pa_cons (pv 3) pa_nil)))))) (fun _ _ _ _ _ => (pv 5)))))))))), ?_⟩
    refine ⟨_, rfl, a, gs, rfl, ha, ok, by omega, hS, fun H1 S1 => ?_⟩
    have ha1 := S1 _ _ ha
    refine ⟨_, rfl, a, gs, 1, rfl, ha1, by omega, ?_⟩
    refine ⟨_, rfl, _, (m : Int), 1, 2000, rfl, by omega, by omega, ?_⟩
    refine ⟨_, rfl, a, gs, rfl, ha1, by omega, fun wl H2 hw S2 hw2 => ?_⟩
    have ha2 := S2 _ _ ha1
    refine ⟨_, rfl, a, gs, rfl, ha2, by omega, fun d H3 hd S3 hd3 => ?_⟩
    have hw3 := S3 _ _ hw2
    have dl := Ds_len gs
    have d2 : (gs.length + 1) * (gs.length + 1) ≤ 12 * 12 := Nat.mul_le_mul (by omega) (by omega)
    have S13 := (S1.trans S2).trans S3
    refine ⟨d, rfl, ⟨_, SqL.of hd3⟩, fun D hD => dc_it walk_list (fun i H' => Same H3 H' ∧ ∃ kvs, H' D = some (.dK kvs) ∧ kvs.length ≤ i ∧ KeysAre kvs ((Ds gs).take i)) ⟨same_new hD, [], upd_same, Nat.le_refl _, fun i => by simp [valV]⟩ (fun i H' _ z => SqL.of (z.1 _ _ hd3)) (fun i x H4 H5 hi z y => ?_) (fun H4 z => ?_)⟩
    · obtain ⟨rfl, hx⟩ := y
      obtain ⟨e, he, rfl⟩ := map_of hx
      obtain ⟨S4, kvs, hk, hkl, hkeys⟩ := z
      rw [List.length_map] at hi
      refine ⟨rfl, yes_t (iteT ?_)⟩
      refine ⟨_, rfl, kvs, Sum.inl e, rfl, hk, small_line (by omega), same_app hD S4, _, upd_same, ?_, fun i' => ?_⟩
      · have := length_putK kvs (Sum.inl e : Key) (V.bl true)
        omega
      · rw [valV_put, List.take_add_one, he]
        by_cases ee : i' = e
        · subst ee
          rw [if_pos rfl]
          simp
        · rw [if_neg (fun q => ee (Sum.inl.inj q)), hkeys]
          simp [ee]
    obtain ⟨S4, kvs, hk, hkl, hkeys⟩ := z
    rw [List.length_map, List.take_length] at hkeys
    have hw4 := S4 _ _ hw3
    have S14 := S13.trans S4
    have hmr : (((m : Nat) : Int) + 1 - 1).toNat = m := by omega
    refine ⟨_, rfl, _, _, rfl, rfl, ?_⟩
    refine ⟨_, _, rfl, ⟨by omega, by omega, by omega, by omega⟩, fun D2 hD2 => ?_⟩
    have hsel := selTo_filter (fun i => (1 : Int) + (i : Int)) (fun g => decide (Spr (gs ++ [g]))) m
    have pos : ∀ x ∈ gs, 1 ≤ x := fun x hx => (ok.2 x hx).1
    refine lc_selR (lo := 1) (n := (((m : Nat) : Int) + 1 - 1).toNat) (fun i => if decide (Spr (gs ++ [(1 : Int) + (i : Int)])) then some (.int ((1 : Int) + (i : Int))) else none) hD2 (by omega) (fun i H5 Q5 hi S5 q => ?_) (fun H5 S5 h5 => ?_)
    · refine ⟨rfl, ?_⟩
      refine ⟨_, rfl, _, rfl, _, rfl, (1 : Int) + (i : Int), wl, D, ways gs, Ds gs, kvs, rfl, S5 _ _ hw4, by unfold ways; rw [List.length_map, offs_len]; omega, S5 _ _ hk, hkeys, fun H6 S6 => ⟨_, rfl, ?_⟩⟩
      have q6 := q H6 S6
      rw [fit_spr pos hS]
      cases hb : decide (Spr (gs ++ [(1 : Int) + (i : Int)])) with
      | true =>
        rw [hb, if_pos rfl] at q6
        exact iteT ⟨_, rfl, q6⟩
      | false =>
        rw [hb, if_neg (by simp)] at q6
        exact iteF q6
    · rw [hmr, hsel] at h5
      exact k D2 H5 (S14.free hD2) (S14.trans S5) h5
end
end RS
/-! ### name = {k: v for ..}, the name a local -/
namespace L2
open PySem PySem.Spec PyProof.Rows
theorem sw_dict {kx vx : Expr} {cs : List Comprehension} {scope : Scope} {pos py : Pos} {y : Str} {line : Nat} {env : Env} (fn : env.scope.kind = .function) (loc : env.scope.names.lookup y = some .local) (row : (py.line == pos.line) = true)
    (own : (scope.names.any fun (n, k) => n == y && (k == .local || k == .cell)) = false) : swapsWith (.DictComp kx vx cs scope pos) (some (.Name y py)) line env = pure true := by
  have a : env.kindOf y = some .local := loc
  have b : env.blockKind = .function := by
    unfold Env.blockKind
    rw [fn]
    rfl
  unfold swapsWith
  simp only [a, b, own, Expr.pos, row]
  rfl
theorem ps_setDc {X : Cx} {i : Nat} {y : Str} {py pos spos : Pos} {kx vx tg iter : Expr} {ifs : List Expr} {scope : Scope} {own : List (Str × Nat)} {wi : TI} {g : TG} {tt : TT} {tk tv : TE} (hc : X.calm = true) (hN : X.N.Nodup) (iy : X.N[i]? = some y) (ly : X.env.scope.names.lookup y = some .local)
    (sw : swapsWith (.DictComp kx vx [⟨tg, iter, ifs, 0⟩] scope pos) (some (.Name y py)) spos.line X.env = pure true) (hi : PI X tg iter wi) (ok : BlkOk X.N X.env.scope scope own)
    (hg : ∀ (s : Shared) (H : Hp) (C : Addr) (cl : List (Str × Addr)) (fp : List Addr), PG (X.blk s H scope (compEnvC scope cl C X.env) fp) tg g) (ht : ∀ (s : Shared) (H : Hp) (C : Addr) (cl : List (Str × Addr)) (fp : List Addr), PTs (X.blk s H scope (compEnvC scope cl C X.env) fp) ifs tt)
    (hk : ∀ (s : Shared) (H : Hp) (C : Addr) (cl : List (Str × Addr)) (fp : List Addr), PE (X.blk s H scope (compEnvC scope cl C X.env) fp) kx tk)
    (he : ∀ (s : Shared) (H : Hp) (C : Addr) (cl : List (Str × Addr)) (fp : List Addr), PE (X.blk s H scope (compEnvC scope cl C X.env) fp) vx tv) (hs : ∀ x, foldedSetIterable iter X.env x = pure x := by intro _; rfl) :
    PS X (.Assign [.Name y py] (.DictComp kx vx [⟨tg, iter, ifs, 0⟩] scope pos) spos) (tAsg (tDc wi g tt tk tv (own.map (·.2))) (gName i)) := by
  constructor
  intro pins s σ H D I h
  have told : tDc wi g tt tk tv (own.map (·.2)) σ H (fun x H1 => gName i x σ H1 D.nx) := h
  rw [exec_Assign_Name_used _ _ _ _ sw]
  refine wpAny_bind (wpAny_standAt (wpAny_bind ?_))
  refine wpAny_bind (thn (show wpAny _ X.A (comprehension (.DictComp kx vx [⟨tg, iter, ifs, 0⟩] scope pos) scope X.env (firstIterPos [⟨tg, iter, ifs, 0⟩] pos) newDict false (eval iter X.env) (some (assign (.Name y py) X.env))) (fun _ s' => SP X pins D .next s') _ s from
    dc_core hc hN I hi ok hg ht hk he hs told fun L C s' m H' I' q ns fo => ?_) fun _ _ z => wpAny_pure (wpAny_pure z))
  obtain ⟨f0, f1, f2, f3, f4, f5⟩ := fo
  show wpAny _ _ (assign (.Name y py) X.env (.ref L)) _ _ _
  refine wpAny_assign_Name (store_ok2 (v := V.ref L) I' hN iy (.inl ly) rfl (fun s2 I2 ⟨a, sb, ha⟩ => ?_) (.inr ly))
  have apart : C ≠ a := ha.elim (fun z => z ▸ f1) fun z e => f4 y a z e.symm
  exact ⟨m, ns.sameBut sb apart, fun h3 sb3 => ⟨_, H', I2.turned (t' := s2.toks) (fun b o hb e => (sb3.2 b hb).trans e) f0 f1 f3 f4 f5, q⟩⟩
end L2
namespace RS
open PySem L2 Cmb
/-! ### the least gap -/
def IsLeast (gs : List Int) (g : Int) : Prop := 1 ≤ g ∧ Spr (gs ++ [g]) ∧ ∀ h, 1 ≤ h → h < g → ¬ Spr (gs ++ [h])
theorem IsLeast.one {gs : List Int} {g h : Int} (a : IsLeast gs g) (b : IsLeast gs h) : g = h := by
  rcases Int.lt_trichotomy g h with z | z | z
  · exact absurd a.2.1 (b.2.2 g a.1 z)
  · exact z
  · exact absurd b.2.1 (a.2.2 h b.1 z)
theorem few_in : ∀ {l m : List Int}, l.Nodup → (∀ x ∈ l, x ∈ m) → l.length ≤ m.length
  | [], _, _, _ => Nat.zero_le _
  | x :: l, m, h, hs => by
    obtain ⟨h1, h2⟩ := List.nodup_cons.mp h
    have ih := few_in (l := l) (m := m.erase x) h2 fun y hy => by
      have hne : y ≠ x := fun e => h1 (e ▸ hy)
      exact (List.mem_erase_of_ne hne).mpr (hs y (List.mem_cons_of_mem _ hy))
    have hm := hs x (List.mem_cons_self ..)
    rw [List.length_erase_of_mem hm] at ih
    have : 0 < m.length := List.length_pos_of_mem hm
    rw [List.length_cons]
    omega
theorem flat_len {l m : List Int} {f : Int → Int → Int} : (l.flatMap fun d => m.map (f d)).length = l.length * m.length := by
  induction l with
  | nil => simp
  | cons x l ih =>
    rw [List.flatMap_cons, List.length_append, ih, List.length_map, List.length_cons, Nat.succ_mul, Nat.add_comm]
/-- some gap up to a bound may follow -/
theorem some_fits {gs : List Int} (pos : ∀ x ∈ gs, 1 ≤ x) (h : Spr gs) (hl : gs.length ≤ 12) : ∃ g : Nat, 1 ≤ g ∧ g ≤ 2198 ∧ Spr (gs ++ [(g : Int)]) := by
  refine Classical.byContradiction fun no => ?_
  have bad : ∀ g : Nat, 1 ≤ g → g ≤ 2198 → ∃ i, i ≤ gs.length ∧ pre gs gs.length - pre gs i + (g : Int) ∈ Ds gs := fun g h1 h2 => by
    refine Classical.byContradiction fun z => no ⟨g, h1, h2, (spr_snoc pos).mpr ⟨h, fun i hi hm => z ⟨i, hi, hm⟩⟩⟩
  have sub : ∀ x ∈ (List.range 2198).map (fun i => ((i + 1 : Nat) : Int)), x ∈ (Ds gs).flatMap fun d => (ways gs).map fun w => d - w := by
    intro x hx
    obtain ⟨i, hi, rfl⟩ := List.mem_map.mp hx
    have hi := List.mem_range.mp hi
    obtain ⟨j, hj, hm⟩ := bad (i + 1) (by omega) (by omega)
    exact List.mem_flatMap.mpr ⟨_, hm, List.mem_map.mpr ⟨_, mem_ways.mpr ⟨j, hj, rfl⟩, by omega⟩⟩
  have nd : ((List.range 2198).map (fun i => ((i + 1 : Nat) : Int))).Nodup := List.pairwise_map.mpr (List.nodup_range.imp fun {a b} hab e => hab (by omega))
  have le := few_in nd sub
  rw [List.length_map, List.length_range, flat_len] at le
  have d1 := Ds_len gs
  have d2 : (ways gs).length = gs.length + 1 := by unfold ways; rw [List.length_map, offs_len]
  have d3 : (gs.length + 1) * (gs.length + 1) ≤ 13 * 13 := Nat.mul_le_mul (by omega) (by omega)
  have d4 : (Ds gs).length * (ways gs).length ≤ 169 * 13 := Nat.mul_le_mul (by omega) (by omega)
  omega
theorem least_nat {p : Nat → Prop} {n : Nat} (h : p n) : ∃ m, p m ∧ m ≤ n ∧ ∀ k < m, ¬ p k := by
  induction n using Nat.strongRecOn with
  | ind n ih =>
    by_cases z : ∃ k, k < n ∧ p k
    · obtain ⟨k, hk, pk⟩ := z
      obtain ⟨m, a, b, c⟩ := ih k hk pk
      exact ⟨m, a, by omega, c⟩
    · exact ⟨n, h, Nat.le_refl _, fun k hk pk => z ⟨k, hk, pk⟩⟩
theorem least_is {gs : List Int} (pos : ∀ x ∈ gs, 1 ≤ x) (h : Spr gs) (hl : gs.length ≤ 12) : ∃ g : Nat, IsLeast gs (g : Int) ∧ g ≤ 2198 := by
  obtain ⟨n, n1, n2, hn⟩ := some_fits pos h hl
  obtain ⟨m, ⟨m1, hm⟩, m2, hlow⟩ := least_nat (p := fun n => 1 ≤ n ∧ Spr (gs ++ [(n : Int)])) ⟨n1, hn⟩
  refine ⟨m, ⟨by omega, hm, fun x x1 x2 hx => hlow x.toNat (by omega) ⟨by omega, ?_⟩⟩, by omega⟩
  rw [Int.toNat_of_nonneg (by omega)]
  exact hx
/-- a list with so many least gaps more -/
inductive Ext (gs : List Int) : Nat → List Int → Prop
  | nil : Ext gs 0 gs
  | snoc {k : Nat} {r : List Int} {g : Int} : Ext gs k r → IsLeast r g → Ext gs (k + 1) (r ++ [g])
theorem Ext.one {gs : List Int} : ∀ {k : Nat} {r s : List Int}, Ext gs k r → Ext gs k s → r = s
  | 0, _, _, .nil, .nil => rfl
  | _ + 1, _, _, .snoc a x, .snoc b y => by
    have e := Ext.one a b
    subst e
    rw [x.one y]
theorem Ext.len {gs : List Int} : ∀ {k : Nat} {r : List Int}, Ext gs k r → r.length = gs.length + k
  | 0, _, .nil => rfl
  | _ + 1, _, .snoc a _ => by
    rw [List.length_append, a.len]
    rfl
theorem Ext.add {gs r : List Int} {j : Nat} (a : Ext gs j r) : ∀ {k : Nat} {s : List Int}, Ext r k s → Ext gs (j + k) s
  | 0, _, .nil => a
  | _ + 1, _, .snoc b x => .snoc (Ext.add a b) x
/-- such a list is spread, and its gaps are gaps -/
theorem Ext.fine {gs : List Int} (hS : Spr gs) (hall : ∀ x ∈ gs, 1 ≤ x ∧ x ≤ 1000000000000) : ∀ {k : Nat} {r : List Int}, Ext gs k r → gs.length + k ≤ 13 → Spr r ∧ ∀ x ∈ r, 1 ≤ x ∧ x ≤ 1000000000000
  | 0, _, .nil, _ => ⟨hS, hall⟩
  | k + 1, _, .snoc (r := r) (g := g) a x, hk => by
    obtain ⟨h1, h2⟩ := Ext.fine hS hall a (by omega)
    have hl := a.len
    obtain ⟨n, hn, n2⟩ := least_is (fun x hx => (h2 x hx).1) h1 (by omega)
    have e := x.one hn
    refine ⟨x.2.1, fun y hy => ?_⟩
    rcases List.mem_append.mp hy with hy | hy
    · exact h2 y hy
    · rw [List.mem_singleton.mp hy]
      exact ⟨x.1, by omega⟩
theorem Ext.first {gs : List Int} : ∀ {k : Nat} {r : List Int}, Ext gs (k + 1) r → ∃ g, r[gs.length]? = some g ∧ IsLeast gs g
  | 0, _, .snoc .nil x => ⟨_, by simp, x⟩
  | k + 1, _, .snoc (r := r) a _ => by
    obtain ⟨g, h1, h2⟩ := Ext.first a
    have hi := (List.getElem?_eq_some_iff.mp h1).1
    exact ⟨g, by rw [List.getElem?_append_left hi]; exact h1, h2⟩
section
variable {P : Program} {w : World} {K : PySem.W.Frag} {mg : Str → Option Value} {base : Heap}
/-! ### _least_gap -/
def spLg : Sp := fun vs H Q _ => ∃ (a : Addr) (gs : List Int), vs = [.ref a] ∧ H a = some (.lst (gs.map V.int)) ∧ gs.length ≤ 12 ∧ Spr gs ∧ (∀ x ∈ gs, 1 ≤ x) ∧ ∀ g H', IsLeast gs g → Same H H' → Q (.int g) H'
def lgN : List Str := ["gaps", "ways", "taken", "gap", "difference"]
theorem scLg : FnScope lgN ["gaps"] (defScope s_least_gap) := ⟨rfl, rfl, rfl, by decide +kernel, rfl, by decide +kernel, by decide +kernel⟩
theorem ok_lg {f C fW fD fF : Addr} {fd fdW fdD fdF : FuncData} (F : Fun K "_least_gap" "_least_gap" s_least_gap f fd) (T : Txt K mg C)
    (GW : FnOk P w K mg base CX0 2 fW fdW ["gaps"] spWb) (bW : Binds K fdW ["gaps"] []) (mW : mg "_ways_back" = some (.ref fW)) (kW : PySem.W.keepIn K (.ref fW) = true)
    (GD : FnOk P w K mg base CX0 2 fD fdD ["gaps"] spDf) (bD : Binds K fdD ["gaps"] []) (mD : mg "_differences" = some (.ref fD)) (kD : PySem.W.keepIn K (.ref fD) = true)
    (GF : FnOk P w K mg base CX0 1 fF fdF ["gap", "ways", "taken"] spFt) (bF : Binds K fdF ["gap", "ways", "taken"] []) (mF : mg "_fits" = some (.ref fF)) (kF : PySem.W.keepIn K (.ref fF) = true) : FnOk P w K mg base CX0 3 f fd ["gaps"] spLg := by
  refine F.ok scLg (fun vs H Q E h => ?_) (fun cdv A outer s H vs Q E hr h => ?_)
  · obtain ⟨a, gs, rfl, _⟩ := h
    rfl
  · obtain ⟨a, gs, rfl, ha, hl, hS, pos, k⟩ := h
    have hr1 := hr.mono (show 1 ≤ 2 by decide)
    refine ⟨_, (pss_cons (ps_set (i := 1) scLg.nd rfl (Or.inl rfl) (pe_call GW hr rfl mW kW bW .nil pass0 (pa_cons (pv 0) pa_nil))) (pss_cons (ps_setDc (i := 2) (own := [("difference", 4)]) (g := gName 4) (tt := tYes) (by rfl) scLg.nd rfl rfl (sw_dict rfl rfl rfl (by decide +kernel)) (pi_list (pe_call GD hr rfl mD kD bD .nil pass0 (pa_cons (pv 0) pa_nil))) (blkOk_by (own := [("difference", 4)]) (N := lgN) (sc := defScope s_least_gap) (by decide +kernel)) (fun _ _ _ _ _ => (pg_name (i := 4) scLg.nd rfl (Or.inl rfl))) (fun _ _ _ _ _ => pts_nil) (fun _ _ _ _ _ => pv 4) (fun _ _ _ _ _ => pe_bl)) (pss_cons (ps_set (i := 3) scLg.nd rfl (Or.inl rfl) pe_int) (pss_cons (ps_while PassesOwn.never (pt_not (pt_val (pe_call GF hr1 rfl mF kF bF .nil pass0 (pa_cons (pv 3) (pa_cons (pv 1) (pa_cons (pv 2) pa_nil)))))) (pss_one (ps_set (i := 3) scLg.nd rfl (Or.inl rfl) (pe_op op_add (pv 3) pe_int)))) (pss_one (ps_ret (pv 3))))))), ?_⟩
    refine ⟨_, rfl, a, gs, rfl, ha, by omega, fun wl H2 hw S2 hw2 => ?_⟩
    have ha2 := S2 _ _ ha
    refine ⟨_, rfl, a, gs, rfl, ha2, by omega, fun d H3 hd S3 hd3 => ?_⟩
    have hw3 := S3 _ _ hw2
    have dl := Ds_len gs
    have d2 : (gs.length + 1) * (gs.length + 1) ≤ 13 * 13 := Nat.mul_le_mul (by omega) (by omega)
    have S13 := S2.trans S3
    refine ⟨d, rfl, ⟨_, SqL.of hd3⟩, fun D hD => dc_it walk_list (fun i H' => Same H3 H' ∧ ∃ kvs, H' D = some (.dK kvs) ∧ kvs.length ≤ i ∧ KeysAre kvs ((Ds gs).take i)) ⟨same_new hD, [], upd_same, Nat.le_refl _, fun i => by simp [valV]⟩ (fun i H' _ z => SqL.of (z.1 _ _ hd3)) (fun i x H4 H5 hi z y => ?_) (fun H4 z => ?_)⟩
    · obtain ⟨rfl, hx⟩ := y
      obtain ⟨e, he, rfl⟩ := map_of hx
      obtain ⟨S4, kvs, hk, hkl, hkeys⟩ := z
      rw [List.length_map] at hi
      refine ⟨rfl, yes_t (iteT ?_)⟩
      refine ⟨_, rfl, kvs, Sum.inl e, rfl, hk, small_line (by omega), same_app hD S4, _, upd_same, ?_, fun i' => ?_⟩
      · have := length_putK kvs (Sum.inl e : Key) (V.bl true)
        omega
      · rw [valV_put, List.take_add_one, he]
        by_cases ee : i' = e
        · subst ee
          rw [if_pos rfl]
          simp
        · rw [if_neg (fun q => ee (Sum.inl.inj q)), hkeys]
          simp [ee]
    obtain ⟨S4, kvs, hk, hkl, hkeys⟩ := z
    rw [List.length_map, List.take_length] at hkeys
    have hw4 := S4 _ _ hw3
    have S14 := S13.trans S4
    clear S13 S4 hd3 hw3 S2 S3 ha2 hw2 hw hd
    obtain ⟨m, hm, _⟩ := least_is pos hS hl
    refine ⟨fun n σ H' => ∃ g : Nat, n + g = m ∧ 1 ≤ g ∧ σ = [some (.ref a), some (.ref wl), some (.ref D), some (.int (g : Int)), none] ∧ Same H4 H' ∧ ∀ h : Int, 1 ≤ h → h < (g : Int) → ¬ Spr (gs ++ [h]), ⟨m - 1, 1, by have := hm.1; omega, Nat.le_refl _, rfl, Same.refl _, fun h h1 h2 => by omega⟩, ?_⟩
    rintro n σ H5 ⟨g, hng, hg1, rfl, S5, low⟩
    refine ⟨_, rfl, _, rfl, _, rfl, (g : Int), wl, D, ways gs, Ds gs, kvs, rfl, S5 _ _ hw4, by unfold ways; rw [List.length_map, offs_len]; omega, S5 _ _ hk, hkeys, fun H6 S6 => ⟨_, rfl, ?_⟩⟩
    rw [fit_spr pos hS]
    by_cases hsp : Spr (gs ++ [(g : Int)])
    · rw [decide_eq_true hsp]
      refine iteF ⟨_, rfl, k _ H6 ⟨by omega, hsp, low⟩ (S14.trans (S5.trans S6))⟩
    · rw [decide_eq_false hsp]
      refine iteT ⟨fun σ' H' => σ' = [some (.ref a), some (.ref wl), some (.ref D), some (.int ((g : Int) + 1)), none] ∧ H' = H6, ?_, ?_⟩
      · rintro σ' H' ⟨rfl, rfl⟩
        have ne : g ≠ m := fun e => hsp (by rw [e]; exact hm.2.1)
        have le : g ≤ m := by omega
        refine ⟨n - 1, by omega, g + 1, by omega, by omega, rfl, S5.trans S6, fun h h1 h2 => ?_⟩
        by_cases e : h = (g : Int)
        · rw [e]
          exact hsp
        · exact low h h1 (by omega)
      · exact ⟨_, rfl, _, _, rfl, rfl, rfl, rfl⟩
end
end RS
namespace RS
open PySem L2 Cmb
section
variable {P : Program} {w : World} {K : PySem.W.Frag} {mg : Str → Option Value} {base : Heap}
/-! ### extended -/
def spEx : Sp := fun vs H Q _ => ∃ (a : Addr) (gs : List Int) (m : Nat), vs = [.ref a, .int (m : Int)] ∧ H a = some (.lst (gs.map V.int)) ∧ GapsOk gs ∧ gs.length + m ≤ 12 ∧ Spr gs ∧ ∀ q r H', Ext gs m r → H q = none → Same H H' → H' q = some (.lst (r.map V.int)) → Q (.ref q) H'
def exN : List Str := ["gaps", "count", "found", "_"]
theorem scEx : FnScope exN ["gaps", "count"] (defScope s_extended) := ⟨rfl, rfl, rfl, by decide +kernel, rfl, by decide +kernel, by decide +kernel⟩
theorem ok_ex {f C fS fR fB fL : Addr} {fd fdS fdR fdB fdL : FuncData} (F : Fun K "extended" "extended" s_extended f fd) (T : Txt K mg C) (mM : ∃ t, mg "MOST_GAPS_short" = some (.int 12 t))
    (GS : FnOk P w K mg base CX0 4 fS fdS ["gaps"] spCs) (bS : Binds K fdS ["gaps"] []) (mS : mg "_check_spread" = some (.ref fS)) (kS : PySem.W.keepIn K (.ref fS) = true)
    (GR : FnOk P w K mg base CX0 1 fR fdR ["gaps", "many"] spRm) (bR : Binds K fdR ["gaps", "many"] []) (mR : mg "_check_room" = some (.ref fR)) (kR : PySem.W.keepIn K (.ref fR) = true)
    (GB : FnOk P w K mg base CX0 2 fB fdB ["part", "value", "low", "high"] spCbH) (bB : Binds K fdB ["part", "value", "low", "high"] []) (mB : mg "check_bound" = some (.ref fB)) (kB : PySem.W.keepIn K (.ref fB) = true)
    (GL : FnOk P w K mg base CX0 3 fL fdL ["gaps"] spLg) (bL : Binds K fdL ["gaps"] []) (mL : mg "_least_gap" = some (.ref fL)) (kL : PySem.W.keepIn K (.ref fL) = true) : FnOk P w K mg base CX0 5 f fd ["gaps", "count"] spEx := by
  obtain ⟨tm, mm⟩ := mM
  refine F.ok scEx (fun vs H Q E h => ?_) (fun cdv A outer s H vs Q E hr h => ?_)
  · obtain ⟨a, gs, m, rfl, _⟩ := h
    rfl
  · obtain ⟨a, gs, m, rfl, ha, ok, hl, hS, k⟩ := h
    have hr1 := hr.mono (show 1 ≤ 4 by decide)
    have hr2 := hr.mono (show 2 ≤ 4 by decide)
    have hr3 := hr.mono (show 3 ≤ 4 by decide)
    refine ⟨_, (pss_cons (ps_expr (pe_call GS hr rfl mS kS bS .nil pass0 (pa_cons (pv 0) pa_nil))) (pss_cons (ps_expr (pe_call GB hr2 rfl mB kB bB .nil pass0 (pa_cons pe_str (pa_cons (pv 1) (pa_cons pe_int (pa_cons (pe_glob (v := .int 12) rfl mm ⟨_, rfl⟩) pa_nil)))))) (pss_cons (ps_expr (pe_call GR hr1 rfl mR kR bR .nil pass0 (pa_cons (pv 0) (pa_cons (pv 1) pa_nil)))) (pss_cons (ps_set (i := 2) scEx.nd rfl (Or.inl rfl) (pe_callTy call_list_of (by rfl) T.list (by decide +kernel) (pa_cons (pv 0) pa_nil))) (pss_cons (ps_for PassesOwn.never rfl (pi_range1 rfl T.range (pa_cons (pv 1) pa_nil)) (pg_name (i := 3) scEx.nd rfl (Or.inl rfl)) (pss_one (ps_expr (pe_bm PySem.F.plainAttrs_list PySem.F.slot_list_append PySem.F.type_list_append mt_append (pv 2) (pa_cons (pe_call GL hr3 rfl mL kL bL .nil pass0 (pa_cons (pv 2) pa_nil)) pa_nil))))) (pss_one (ps_ret (pv 2)))))))), ?_⟩
    refine ⟨_, rfl, a, gs, rfl, ha, ok, by omega, hS, fun H1 S1 => ?_⟩
    have ha1 := S1 _ _ ha
    refine ⟨_, rfl, _, (m : Int), 0, 12, rfl, by omega, by omega, ?_⟩
    refine ⟨_, rfl, _, rfl, a, gs, (m : Int), rfl, ha1, by omega, ?_⟩
    refine ⟨_, rfl, a, _, rfl, .inl (SqL.of ha1), fun q hq => ?_⟩
    have hm : (((m : Nat) : Int)).toNat = m := Int.toNat_natCast m
    have hqH : H q = none := S1.free hq
    refine ⟨_, rfl, m, rfl, by omega, by omega, for_range (lo := 0) (n := (((m : Nat) : Int)).toNat) (fun i σ H' => ∃ (v3 : Option V) (r : List Int), σ = [some (.ref a), some (.int (m : Int)), some (.ref q), v3] ∧ Same H H' ∧ H' q = some (.lst (r.map V.int)) ∧ Ext gs i r) ⟨none, gs, rfl, S1.trans (same_new hq), upd_same, .nil⟩ ?_ ?_⟩
    · rintro i σ H2 hi ⟨v3, r, rfl, S2, hr2', x⟩
      rw [hm] at hi
      obtain ⟨f1, f2⟩ := x.fine hS ok.2 (by omega)
      have xl := x.len
      refine ⟨_, rfl, .inl ⟨rfl, _, SqL.of hr2'⟩, _, rfl, q, r, rfl, hr2', by omega, f1, fun y hy => (f2 y hy).1, fun g H3 hg S3 => ?_⟩
      refine ⟨q, _, _, rfl, rfl, S3 _ _ hr2', by rw [List.length_map]; exact small1000 (by omega), ?_⟩
      exact ⟨_, _, rfl, same_app hqH (S2.trans S3), by rw [upd_same, List.map_append]; rfl, .snoc x hg⟩
    · rintro σ H2 ⟨v3, r, rfl, S2, hr2', x⟩
      rw [hm] at x
      exact ⟨_, rfl, k q r H2 x hqH S2 hr2'⟩
end
end RS
/-! ### the search for spread lists: mathematics -/
namespace RS
open PySem L2 Cmb
/-- the gaps that may come next -/
def chs (m : Nat) (t : Int) : List Int := if m = 1 then (if 0 < t then [t] else []) else (List.range (t - (m : Int) * ((m : Int) - 1) / 2).toNat).map fun (i : Nat) => (1 : Int) + (i : Int)
/-- what is found from a list on, with so many gaps to go and this total -/
def fnd : Nat → List Int → Int → List (List Int)
  | 0, gs, t => if t = 0 then [gs] else []
  | m + 1, gs, t => (chs (m + 1) t).flatMap fun g => if Spr (gs ++ [g]) then fnd m (gs ++ [g]) (t - g) else []
theorem chs_pos {m : Nat} {t : Int} : ∀ g ∈ chs m t, 1 ≤ g := fun g hg => by
  unfold chs at hg
  split at hg
  · split at hg
    · have := List.mem_singleton.mp hg
      omega
    · cases hg
  · obtain ⟨i, _, rfl⟩ := List.mem_map.mp hg
    omega
theorem chs_le {m : Nat} {t : Int} : ∀ g ∈ chs m t, g ≤ t := fun g hg => by
  unfold chs at hg
  split at hg
  · split at hg
    · have := List.mem_singleton.mp hg
      omega
    · cases hg
  · obtain ⟨i, hi, rfl⟩ := List.mem_map.mp hg
    have hi := List.mem_range.mp hi
    have : 0 ≤ (m : Int) * ((m : Int) - 1) / 2 := by
      refine Int.ediv_nonneg ?_ (by omega)
      rcases Nat.eq_zero_or_pos m with h | h
      · subst h
        decide
      · exact Int.mul_nonneg (by omega) (by omega)
    omega
theorem fnd_spr : ∀ {m : Nat} {gs : List Int} {t : Int}, Spr gs → ∀ r ∈ fnd m gs t, Spr r
  | 0, gs, t, h, r, hr => by
    unfold fnd at hr
    split at hr
    · rw [List.mem_singleton.mp hr]
      exact h
    · cases hr
  | m + 1, gs, t, h, r, hr => by
    unfold fnd at hr
    obtain ⟨g, _, hg⟩ := List.mem_flatMap.mp hr
    split at hg
    · exact fnd_spr (by assumption) r hg
    · cases hg
theorem fnd_fine : ∀ {m : Nat} {gs : List Int} {t : Int}, (∀ x ∈ gs, 1 ≤ x) → ∀ r ∈ fnd m gs t, (∀ x ∈ r, 1 ≤ x) ∧ r.length = gs.length + m ∧ r.sum = gs.sum + t
  | 0, gs, t, h, r, hr => by
    unfold fnd at hr
    split at hr
    · rw [List.mem_singleton.mp hr]
      exact ⟨h, rfl, by omega⟩
    · cases hr
  | m + 1, gs, t, h, r, hr => by
    unfold fnd at hr
    obtain ⟨g, hg1, hg⟩ := List.mem_flatMap.mp hr
    split at hg
    · obtain ⟨a, b, c⟩ := fnd_fine (gs := gs ++ [g]) (fun x hx => (List.mem_append.mp hx).elim (h x) fun z => by rw [List.mem_singleton.mp z]; exact chs_pos g hg1) r hg
      rw [List.length_append] at b
      rw [List.sum_append] at c
      refine ⟨a, ?_, ?_⟩
      · rw [b]
        show gs.length + 1 + m = _
        omega
      · rw [c]
        show gs.sum + (g + 0) + (t - g) = _
        omega
    · cases hg
/-- the ways back, in any order -/
def WayL (ws gs : List Int) : Prop := ws.length = gs.length + 1 ∧ ∀ x, x ∈ ws ↔ x ∈ ways gs
theorem wayL_nil : WayL [0] [] := ⟨rfl, fun x => by
  rw [mem_ways]
  constructor
  · intro h
    rw [List.mem_singleton.mp h]
    exact ⟨0, Nat.le_refl _, rfl⟩
  · rintro ⟨i, hi, rfl⟩
    have : i = 0 := by simpa using hi
    subst this
    exact List.mem_singleton.mpr rfl⟩
theorem wayL_snoc {ws gs : List Int} {g : Int} (h : WayL ws gs) : WayL (0 :: ws.map fun x => x + g) (gs ++ [g]) := by
  refine ⟨by rw [List.length_cons, List.length_map, h.1, List.length_append]; rfl, fun x => ?_⟩
  rw [mem_ways, List.length_append]
  show _ ↔ ∃ i, i ≤ gs.length + 1 ∧ x = pre (gs ++ [g]) (gs.length + 1) - pre (gs ++ [g]) i
  constructor
  · intro hx
    rcases List.mem_cons.mp hx with rfl | hx
    · exact ⟨gs.length + 1, Nat.le_refl _, by omega⟩
    · obtain ⟨y, hy, rfl⟩ := List.mem_map.mp hx
      obtain ⟨i, hi, rfl⟩ := mem_ways.mp ((h.2 y).mp hy)
      exact ⟨i, by omega, by rw [pre_lastS, pre_snoc hi]; omega⟩
  · rintro ⟨i, hi, rfl⟩
    by_cases e : i = gs.length + 1
    · subst e
      rw [Int.sub_self]
      exact List.mem_cons_self ..
    · have hi : i ≤ gs.length := by omega
      refine List.mem_cons_of_mem _ (List.mem_map.mpr ⟨pre gs gs.length - pre gs i, (h.2 _).mpr (mem_ways.mpr ⟨i, hi, rfl⟩), ?_⟩)
      rw [pre_lastS, pre_snoc hi]
      omega
theorem fit_way {ws gs ds : List Int} {g : Int} (h : WayL ws gs) : fitB ws ds g = fitB (ways gs) ds g := by
  unfold fitB
  congr 1
  rw [Bool.eq_iff_iff, List.any_eq_true, List.any_eq_true]
  exact ⟨fun ⟨x, a, b⟩ => ⟨x, (h.2 x).mp a, b⟩, fun ⟨x, a, b⟩ => ⟨x, (h.2 x).mpr a, b⟩⟩
theorem mem_Ds_snoc {ws gs : List Int} {g d : Int} (h : WayL ws gs) : d ∈ Ds (gs ++ [g]) ↔ d ∈ Ds gs ∨ d ∈ ws.map fun x => x + g := by
  rw [mem_Ds, mem_Ds, List.length_append]
  show (∃ i j, i < j ∧ j ≤ gs.length + 1 ∧ _) ↔ _
  constructor
  · rintro ⟨i, j, hij, hj, rfl⟩
    by_cases e : j = gs.length + 1
    · subst e
      refine .inr (List.mem_map.mpr ⟨pre gs gs.length - pre gs i, (h.2 _).mpr (mem_ways.mpr ⟨i, by omega, rfl⟩), ?_⟩)
      rw [pre_lastS, pre_snoc (by omega)]
      omega
    · exact .inl ⟨i, j, hij, by omega, by rw [pre_snoc (by omega), pre_snoc (by omega)]⟩
  · rintro (⟨i, j, hij, hj, rfl⟩ | hd)
    · exact ⟨i, j, hij, by omega, by rw [pre_snoc (by omega), pre_snoc (by omega)]⟩
    · obtain ⟨y, hy, rfl⟩ := List.mem_map.mp hd
      obtain ⟨i, hi, rfl⟩ := mem_ways.mp ((h.2 y).mp hy)
      exact ⟨i, gs.length + 1, by omega, Nat.le_refl _, by rw [pre_lastS, pre_snoc hi]; omega⟩
/-- the least totals -/
def leastT (c : Nat) : Nat := [0, 0, 1, 3, 6, 11, 17, 25].getD c 0
end RS
/-! ### the search for spread lists: the class -/
namespace L2
open PySem PySem.Spec PyProof.Rows
/-- dict(d), a copy -/
theorem call_dictK {X : Cx} : CallR X (.type "dict") (fun xs H Q => ∃ (a : Addr) (kvs : List (Key × V)), xs = [.ref a] ∧ H a = some (.dK kvs) ∧ ∀ p, H p = none → Q (.ref p) (upd H p (.dK kvs))) := by
  intro pins s σ H xs us Q I r q
  obtain ⟨a, kvs, ex, h, q⟩ := q
  subst ex
  obtain ⟨u, eu, rx⟩ := vals1 r
  subst eu
  cases rx
  exact d_copyOf I (.inl h) fun p s' hp I' => ⟨.ref p, _, I', rfl, q p hp⟩
end L2
namespace RS
open PySem L2 Cmb
structure TxtF (K : PySem.W.Frag) (mg : Str → Option Value) (CSe : Addr) : Prop where
  cl : Cls K CSe
  nM : NoAttr K CSe "_many"
  nF : NoAttr K CSe "_found"
  mgS : mg "Search" = some (.ref CSe)
def sef (m : Int) (q : Addr) : List (Str × V) := [("_many", .int m), ("_found", .ref q)]
theorem sef_F (m : Int) (q : Addr) : (sef m q).lookup ("_found" : Str) = some (.ref q) := by
  unfold sef
  rw [List.lookup, show (("_found" : Str) == "_many") = false by decide +kernel, List.lookup, beq_self_eq_true]
theorem sef_M (m : Int) (q : Addr) : (sef m q).lookup ("_many" : Str) = some (.int m) := by
  unfold sef
  rw [List.lookup, beq_self_eq_true]
theorem sef_no (m : Int) (q : Addr) {x : Str} (h1 : x ≠ "_many") (h2 : x ≠ "_found") : (sef m q).lookup x = none := by
  unfold sef
  rw [List.lookup, beq_false_of_ne h1, List.lookup, beq_false_of_ne h2]
  rfl
theorem sef_put (m : Int) (q : Addr) : putF "_found" (.ref q) (putF "_many" (.int m) []) = sef m q := by
  show putF "_found" (.ref q) [(("_many" : Str), V.int m)] = _
  rw [putF, if_neg (by decide +kernel)]
  rfl
/-- lists of lists of whole numbers, told by their addresses -/
def LsAt (H : Hp) (as : List Addr) (rs : List (List Int)) : Prop := as.length = rs.length ∧ ∀ (i : Nat) (a : Addr) (r : List Int), as[i]? = some a → rs[i]? = some r → H a = some (.lst (r.map V.int))
structure FndAt (C : Addr) (G : Addr → Prop) (H : Hp) (p q : Addr) (many : Nat) (rs : List (List Int)) : Prop where
  ob : ∃ dx, H p = some (.ins C dx (sef (many : Int) q))
  ls : ∃ as : List Addr, H q = some (.lst (as.map V.ref)) ∧ (∀ a ∈ as, a ≠ q ∧ G a) ∧ LsAt H as rs
/-- all but one is as it was -/
def But (q : Addr) (H H' : Hp) : Prop := ∀ b u, H b = some u → b ≠ q → H' b = some u
theorem Same.but {q : Addr} {H H' : Hp} (S : Same H H') : But q H H' := fun b u e _ => S b u e
theorem But.trans {q : Addr} {H H1 H2 : Hp} (a : But q H H1) (b : But q H1 H2) : But q H H2 := fun c u e n => b c u (a c u e n) n
theorem LsAt.some_ {H : Hp} {as : List Addr} {rs : List (List Int)} (h : LsAt H as rs) {a : Addr} (ha : a ∈ as) : ∃ r, r ∈ rs ∧ H a = some (.lst (r.map V.int)) := by
  obtain ⟨i, hi, e⟩ := List.mem_iff_getElem.mp ha
  have hr : i < rs.length := by rw [← h.1]; exact hi
  exact ⟨rs[i], List.getElem_mem hr, h.2 i a _ (e ▸ List.getElem?_eq_getElem hi) (List.getElem?_eq_getElem hr)⟩
theorem LsAt.keep {H H' : Hp} {as : List Addr} {rs : List (List Int)} (h : LsAt H as rs) (k : ∀ a ∈ as, ∀ u, H a = some u → H' a = some u) : LsAt H' as rs :=
  ⟨h.1, fun i a r h1 h2 => k a (List.mem_of_getElem? h1) _ (h.2 i a r h1 h2)⟩
theorem FndAt.same {C : Addr} {G : Addr → Prop} {H H' : Hp} {p q : Addr} {many : Nat} {rs : List (List Int)} (F : FndAt C G H p q many rs) (S : Same H H') : FndAt C G H' p q many rs :=
  ⟨let ⟨dx, e⟩ := F.ob; ⟨dx, S _ _ e⟩, let ⟨as, h1, h2, h3⟩ := F.ls; ⟨as, S _ _ h1, h2, h3.keep fun a _ u e => S a u e⟩⟩
section
variable {P : Program} {w : World} {K : PySem.W.Frag} {mg : Str → Option Value} {base : Heap}
/-! ### Search.__init__, found, _keep -/
def spSi (C : Addr) : Sp := fun vs H Q _ => ∃ (p dx : Addr) (m : Nat), vs = [.ref p, .int (m : Int)] ∧ H p = some (.ins C dx []) ∧ ∀ (q : Addr) (H' : Hp), H q = none → But p H H' → (∀ G, FndAt C G H' p q m []) → Q .non H'
theorem scSi : FnScope ["self", "many"] ["self", "many"] (defScope s_Search_ddinitdd) := ⟨rfl, rfl, rfl, by decide +kernel, rfl, by decide +kernel, by decide +kernel⟩
theorem ok_si {f CSe : Addr} {fd : FuncData} (F : Fun K "__init__" "Search.__init__" s_Search_ddinitdd f fd) (TF : TxtF K mg CSe) : FnOk P w K mg base CX0 1 f fd ["self", "many"] (spSi CSe) := by
  refine F.ok scSi (fun vs H Q E h => ?_) (fun cdv A outer s H vs Q E hr h => ?_)
  · obtain ⟨p, dx, m, rfl, _⟩ := h
    rfl
  · obtain ⟨p, dx, m, rfl, hp, k⟩ := h
    refine ⟨_, (pss_cons (ps_fld (pv 0) (pv 1) rfl) (pss_one (ps_fld (pv 0) (pe_lst pa_nil) rfl))), ?_⟩
    refine ⟨_, rfl, _, rfl, p, CSe, dx, _, rfl, hp, TF.cl, TF.nM, (by show 0 < 1000; decide), ?_⟩
    refine ⟨by show 0 ≤ sizeLine; decide, fun q hq => ?_⟩
    have npq : p ≠ q := fun e => by
      rw [← e, upd_same] at hq
      cases hq
    have hqH : H q = none := by rw [upd_ne npq.symm] at hq; exact hq
    refine ⟨_, rfl, p, CSe, dx, _, rfl, by rw [upd_ne npq, upd_same], TF.cl, TF.nF, (by show 1 < 1000; decide), ?_⟩
    rw [sef_put]
    refine k q _ hqH (fun b u e n => ?_) fun G => ⟨⟨dx, upd_same⟩, [], by rw [upd_ne npq.symm, upd_same]; rfl, (fun a h => nomatch h), rfl, (fun i a r h => nomatch h)⟩
    rw [upd_ne n, upd_ne (ne_of_none e hqH), upd_ne n]
    exact e
def spFo (C : Addr) : Sp := fun vs H Q _ => ∃ (p q : Addr) (m : Nat) (rs : List (List Int)) (G : Addr → Prop), vs = [.ref p] ∧ FndAt C G H p q m rs ∧ Q (.ref q) H
theorem scFo : FnScope ["self"] ["self"] (defScope s_Search_found) := ⟨rfl, rfl, rfl, by decide +kernel, rfl, by decide +kernel, by decide +kernel⟩
theorem ok_fo {f CSe : Addr} {fd : FuncData} (F : Fun K "found" "Search.found" s_Search_found f fd) (TF : TxtF K mg CSe) : FnOk P w K mg base CX0 1 f fd ["self"] (spFo CSe) := by
  refine F.ok scFo (fun vs H Q E h => ?_) (fun cdv A outer s H vs Q E hr h => ?_)
  · obtain ⟨p, q, m, rs, G, rfl, _⟩ := h
    rfl
  · obtain ⟨p, q, m, rs, G, rfl, R, k⟩ := h
    obtain ⟨dx, hob⟩ := R.ob
    refine ⟨_, (pss_one (ps_ret (pe_fld (pv 0) rfl))), ?_⟩
    exact ⟨_, rfl, p, CSe, dx, _, _, rfl, hob, TF.cl, TF.nF, sef_F _ _, k⟩
def spKp (C : Addr) : Sp := fun vs H Q _ => ∃ (p q a : Addr) (m : Nat) (rs : List (List Int)) (gs : List Int) (G : Addr → Prop), vs = [.ref p, .ref a] ∧ FndAt C G H p q m rs ∧ a ≠ q ∧ G a ∧ H a = some (.lst (gs.map V.int)) ∧ rs.length < 2000 ∧ ∀ H', But q H H' → FndAt C G H' p q m (rs ++ [gs]) → Q .non H'
theorem scKp : FnScope ["self", "gaps"] ["self", "gaps"] (defScope s_Search_keep) := ⟨rfl, rfl, rfl, by decide +kernel, rfl, by decide +kernel, by decide +kernel⟩
theorem ok_kp {f C CSe : Addr} {fd : FuncData} (F : Fun K "_keep" "Search._keep" s_Search_keep f fd) (T : Txt K mg C) (TF : TxtF K mg CSe) (mM : ∃ t, mg "_MOST_LISTS" = some (.int 2000 t)) : FnOk P w K mg base CX0 1 f fd ["self", "gaps"] (spKp CSe) := by
  obtain ⟨tm, mm⟩ := mM
  refine F.ok scKp (fun vs H Q E h => ?_) (fun cdv A outer s H vs Q E hr h => ?_)
  · obtain ⟨p, q, a, m, rs, gs, G, rfl, _⟩ := h
    rfl
  · obtain ⟨p, q, a, m, rs, gs, G, rfl, R, naq, hG, ha, hl, k⟩ := h
    obtain ⟨dx, hob⟩ := R.ob
    obtain ⟨as, hq, nas, hls⟩ := R.ls
    refine ⟨_, (pss_cons (ps_if (pt_cmpR op_eq (pe_callB call_len_seq (by rfl) T.len (by decide +kernel) (pa_cons (pe_fld (pv 0) rfl) pa_nil)) (pe_glob (v := .int 2000) rfl mm ⟨_, rfl⟩) (nomark _)) (pss_one ps_never) pss_nil) (pss_one (ps_expr (pe_bm PySem.F.plainAttrs_list PySem.F.slot_list_append PySem.F.type_list_append mt_append (pe_fld (pv 0) rfl) (pa_cons (pv 1) pa_nil))))), ?_⟩
    refine ⟨_, rfl, p, CSe, dx, _, _, rfl, hob, TF.cl, TF.nF, sef_F _ _, q, _, rfl, .inl (SqL.of hq), rfl, _, rfl, iteFb (decide_eq_false (fun e => ?_)) ?_⟩
    · have e := V.int.inj e
      rw [List.length_map, hls.1] at e
      omega
    refine ⟨_, rfl, p, CSe, dx, _, _, rfl, hob, TF.cl, TF.nF, sef_F _ _, .inl ⟨rfl, _, SqL.of hq⟩, _, rfl, q, _, _, rfl, rfl, hq, by rw [List.length_map, hls.1]; exact Nat.lt_of_lt_of_le hl (by decide), ?_⟩
    have npq : p ≠ q := ne_of hob hq (by intro z; cases z)
    refine k _ (fun b u e n => by rw [upd_ne n]; exact e) ⟨⟨dx, by rw [upd_ne npq]; exact hob⟩, as ++ [a], by rw [upd_same, List.map_append]; rfl, fun b hb => ?_, by rw [List.length_append, List.length_append, hls.1]; rfl, fun i b r h1 h2 => ?_⟩
    · rcases List.mem_append.mp hb with hb | hb
      · exact nas b hb
      · rw [List.mem_singleton.mp hb]
        exact ⟨naq, hG⟩
    · by_cases hi : i < as.length
      · rw [List.getElem?_append_left hi] at h1
        rw [List.getElem?_append_left (by rw [← hls.1]; exact hi)] at h2
        rw [upd_ne (nas b (List.mem_of_getElem? h1)).1]
        exact hls.2 i b r h1 h2
      · rw [List.getElem?_append_right (by omega)] at h1
        rw [List.getElem?_append_right (by rw [← hls.1]; omega)] at h2
        rw [List.mem_singleton.mp (List.mem_of_getElem? h1), List.mem_singleton.mp (List.mem_of_getElem? h2), upd_ne naq]
        exact ha
/-! ### _choices, _with_taken -/
def spCh : Sp := fun vs H Q _ => ∃ (m : Nat) (t : Int), vs = [.int (m : Int), .int t] ∧ 1 ≤ m ∧ m ≤ 6 ∧ -1000000 ≤ t ∧ t ≤ 1000000 ∧ ∀ q H', H q = none → Same H H' → H' q = some (.lst ((chs m t).map V.int)) → Q (.ref q) H'
theorem scCh : FnScope ["many", "total"] ["many", "total"] (defScope s_choices) := ⟨rfl, rfl, rfl, by decide +kernel, rfl, by decide +kernel, by decide +kernel⟩
theorem ok_ch {f C : Addr} {fd : FuncData} (F : Fun K "_choices" "_choices" s_choices f fd) (T : Txt K mg C) : FnOk P w K mg base CX0 1 f fd ["many", "total"] spCh := by
  refine F.ok scCh (fun vs H Q E h => ?_) (fun cdv A outer s H vs Q E hr h => ?_)
  · obtain ⟨m, t, rfl, _⟩ := h
    rfl
  · obtain ⟨m, t, rfl, m1, m6, t1, t2, k⟩ := h
    refine ⟨_, (pss_cons (ps_if (pt_cmpR op_eq (pv 0) pe_int (nomark _)) (pss_one (ps_ret (pe_ifExp (pt_cmpR op_gt (pv 1) pe_int (nomark _)) (pe_lst (pa_cons (pv 1) pa_nil)) (pe_lst pa_nil)))) pss_nil) (pss_one (ps_ret (pe_listRg rfl (by rfl) T.list (prg_2 (by rfl) T.range pe_int (pe_op op_add (pe_op op_sub (pv 1) (pe_op op_fdiv (pe_op op_mul (pv 0) (pe_op op_sub (pv 0) pe_int)) pe_int)) pe_int)))))), ?_⟩
    refine ⟨_, rfl, rfl, _, rfl, ?_⟩
    by_cases e : m = 1
    · subst e
      refine iteTb (by decide) ?_
      refine ⟨_, rfl, _, _, rfl, rfl, _, rfl, ?_⟩
      have ec : chs 1 t = if 0 < t then [t] else [] := if_pos rfl
      by_cases ht : 0 < t
      · refine iteTb (decide_eq_true ht) ?_
        refine ⟨_, rfl, by show 1 ≤ sizeLine; decide, fun q hq => k q _ hq (same_new hq) ?_⟩
        rw [ec, if_pos ht, upd_same]
        rfl
      · refine iteFb (decide_eq_false ht) ?_
        refine ⟨by show 0 ≤ sizeLine; decide, fun q hq => k q _ hq (same_new hq) ?_⟩
        rw [ec, if_neg ht, upd_same]
        rfl
    · refine iteFb (decide_eq_false fun z => e (by have := V.int.inj z; omega)) ?_
      have ec : chs m t = (List.range (t - (m : Int) * ((m : Int) - 1) / 2).toNat).map fun (i : Nat) => (1 : Int) + (i : Int) := if_neg e
      have b1 : (m : Int) * ((m : Int) - 1) ≤ 6 * 5 := Int.mul_le_mul (by omega) (by omega) (by omega) (by omega)
      have b0 : 0 ≤ (m : Int) * ((m : Int) - 1) := Int.mul_nonneg (by omega) (by omega)
      refine ⟨_, rfl, _, rfl, _, rfl, _, _, rfl, rfl, _, _, rfl, rfl, .inl ⟨by omega, by omega⟩, _, _, rfl, rfl, ⟨by decide, by decide⟩, _, _, rfl, rfl, _, _, rfl, rfl, _, _, rfl, rfl, ⟨by omega, by omega, by omega, by omega, by omega⟩, fun q hq => k q _ hq (same_new hq) ?_⟩
      rw [ec, upd_same]
      unfold rgV
      rw [List.map_map]
      have e2 : (t - (m : Int) * ((m : Int) - 1) / 2 + 1 - 1).toNat = (t - (m : Int) * ((m : Int) - 1) / 2).toNat := by congr 1; omega
      rw [e2]
      rfl
def spWt : Sp := fun vs H Q _ => ∃ (t l : Addr) (kvs : List (Key × V)) (fs : List Int), vs = [.ref t, .ref l] ∧ H t = some (.dK kvs) ∧ kvs.length ≤ 1000 ∧ H l = some (.lst (fs.map V.int)) ∧ fs.length ≤ 100 ∧
  ∀ q kvs' H', H q = none → Same H H' → H' q = some (.dK kvs') → kvs'.length ≤ kvs.length + fs.length → (∀ i : Int, (valV kvs' (Sum.inl i)).isSome = ((valV kvs (Sum.inl i)).isSome || decide (i ∈ fs))) → Q (.ref q) H'
def wtN : List Str := ["taken", "further", "result", "difference"]
theorem scWt : FnScope wtN ["taken", "further"] (defScope s_with_taken) := ⟨rfl, rfl, rfl, by decide +kernel, rfl, by decide +kernel, by decide +kernel⟩
theorem ok_wt {f : Addr} {fd : FuncData} (F : Fun K "_with_taken" "_with_taken" s_with_taken f fd) (zd : mg "dict" = none) : FnOk P w K mg base CX0 1 f fd ["taken", "further"] spWt := by
  refine F.ok scWt (fun vs H Q E h => ?_) (fun cdv A outer s H vs Q E hr h => ?_)
  · obtain ⟨t, l, kvs, fs, rfl, _⟩ := h
    rfl
  · obtain ⟨t, l, kvs, fs, rfl, ht, htl, hl, hfl, k⟩ := h
    have hu := hu_of hr
    refine ⟨_, (pss_cons (ps_set (i := 2) scWt.nd rfl (Or.inl rfl) (pe_callTy call_dictK (by rfl) zd (by decide +kernel) (pa_cons (pv 0) pa_nil))) (pss_cons (ps_for PassesOwn.never rfl (pi_list (pv 1)) (pg_name (i := 3) scWt.nd rfl (Or.inl rfl)) (pss_one (ps_dput hu (pv 2) (pv 3) pe_bl rfl))) (pss_one (ps_ret (pv 2))))), ?_⟩
    refine ⟨_, rfl, t, kvs, rfl, ht, fun q hq => ?_⟩
    have S0 : Same H (upd H q (.dK kvs)) := same_new hq
    refine ⟨_, rfl, l, rfl, ⟨_, SqL.of (S0 _ _ hl)⟩, for_list (a := l) (xs := fs.map V.int) (fun i σ H' => ∃ (v3 : Option V) (kvs' : List (Key × V)), σ = [some (.ref t), some (.ref l), some (.ref q), v3] ∧ Same H H' ∧ H' q = some (.dK kvs') ∧ kvs'.length ≤ kvs.length + i ∧ ∀ x : Int, (valV kvs' (Sum.inl x)).isSome = ((valV kvs (Sum.inl x)).isSome || decide (x ∈ fs.take i))) ⟨none, kvs, rfl, S0, upd_same, Nat.le_refl _, fun x => by simp⟩ (fun i σ H' _ ⟨_, _, _, S, _⟩ => SqL.of (S _ _ hl)) ?_ ?_⟩
    · rintro i x σ H1 hx ⟨v3, kvs', rfl, S1, hq1, hkl, hk⟩
      obtain ⟨g, hg, rfl⟩ := map_of hx
      have hi : i < fs.length := (List.getElem?_eq_some_iff.mp hg).1
      refine ⟨_, rfl, _, rfl, q, _, rfl, DPut.k (k := (Sum.inl g : Key)) hq1 (small_line (by omega)), ?_⟩
      refine ⟨_, _, rfl, same_app hq S1, upd_same, ?_, fun x => ?_⟩
      · have := length_putK kvs' (Sum.inl g : Key) (V.bl true)
        omega
      · rw [valV_put, List.take_add_one, hg]
        by_cases ee : x = g
        · subst ee
          rw [if_pos rfl]
          simp
        · rw [if_neg (fun z => ee (Sum.inl.inj z)), hk]
          simp [ee]
    · rintro σ H1 ⟨v3, kvs', rfl, S1, hq1, hkl, hk⟩
      rw [List.length_map] at hkl hk
      rw [List.take_length] at hk
      exact ⟨_, rfl, k q kvs' H1 hq S1 hq1 hkl hk⟩
end
end RS
namespace RS
open PySem L2 Cmb
section
variable {P : Program} {w : World} {K : PySem.W.Frag} {mg : Str → Option Value} {base : Heap}
/-! ### Search.extend_by -/
def spEb (C : Addr) (m : Nat) : Sp := fun vs H Q _ => ∃ (p q a wl t : Addr) (many : Nat) (tot : Int) (rs : List (List Int)) (gs ws : List Int) (kvs : List (Key × V)) (G : Addr → Prop), vs = [.ref p, .ref a, .ref wl, .ref t, .int tot] ∧ FndAt C G H p q many rs ∧ G a ∧ (∀ b, H b = none → G b) ∧ gs.length + m = many ∧ many ≤ 6 ∧
  H a = some (.lst (gs.map V.int)) ∧ H wl = some (.lst (ws.map V.int)) ∧ H t = some (.dK kvs) ∧ a ≠ q ∧ wl ≠ q ∧ WayL ws gs ∧ KeysAre kvs (Ds gs) ∧ kvs.length ≤ 10 * gs.length ∧ Spr gs ∧ (∀ x ∈ gs, 1 ≤ x) ∧ -1000000 ≤ tot ∧ tot ≤ 1000000 ∧ rs.length + (fnd m gs tot).length ≤ 2000 ∧
  ∀ H', But q H H' → FndAt C G H' p q many (rs ++ fnd m gs tot) → Q .non H'
def ebN : List Str := ["self", "gaps", "ways", "taken", "total", "many", "gap", "further", "way"]
theorem scEb : FnScope ebN ["self", "gaps", "ways", "taken", "total"] (defScope s_Search_extend_by) := ⟨rfl, rfl, rfl, by decide +kernel, rfl, by decide +kernel, by decide +kernel⟩
theorem eb0 {f C CSe fK : Addr} {fd fdK : FuncData} (F : Fun K "extend_by" "Search.extend_by" s_Search_extend_by f fd) (T : Txt K mg C) (TF : TxtF K mg CSe)
    (GK : FnOk P w K mg base CX0 1 fK fdK ["self", "gaps"] (spKp CSe)) (bK : Binds K fdK ["self", "gaps"] []) (mK : Meth K CSe "_keep" fK) : FnOk P w K mg base CX0 2 f fd ["self", "gaps", "ways", "taken", "total"] (spEb CSe 0) := by
  refine F.ok scEb (fun vs H Q E h => ?_) (fun cdv A outer s H vs Q E hr h => ?_)
  · obtain ⟨p, q, a, wl, t, many, tot, rs, gs, ws, kvs, G, rfl, _⟩ := h
    rfl
  · obtain ⟨p, q, a, wl, t, many, tot, rs, gs, ws, kvs, G, rfl, R, hGa, hGn, hm, hm6, ha, hw, ht, naq, nwq, hW, hK, hkl, hS, pos, t1, t2, hlim, k⟩ := h
    obtain ⟨dx, hob⟩ := R.ob
    refine ⟨_, (pss_cons (ps_set (i := 5) scEb.nd rfl (Or.inl rfl) (pe_op op_sub (pe_fld (pv 0) rfl) (pe_callB call_len_seq (by rfl) T.len (by decide +kernel) (pa_cons (pv 1) pa_nil)))) (pss_cons (ps_if (pt_cmpR op_eq (pv 5) pe_int (nomark _)) (pss_cons (ps_if (pt_cmpR op_eq (pv 4) pe_int (nomark _)) (pss_one (ps_expr (pe_meth (pv 0) TF.cl mK GK hr bK .nil pass0 (pa_cons (pv 1) pa_nil)))) pss_nil) (pss_one ps_retN)) pss_nil) (pss_one ps_never))), ?_⟩
    refine ⟨_, rfl, p, CSe, dx, _, _, rfl, hob, TF.cl, TF.nM, sef_M _ _, _, rfl, a, _, rfl, .inl (SqL.of ha), _, _, rfl, rfl, ?_⟩
    refine ⟨_, rfl, rfl, _, rfl, iteTb (decide_eq_true ?_) ?_⟩
    · show V.int ((many : Int) - (((gs.map V.int).length : Nat) : Int)) = V.int 0
      rw [List.length_map, ← hm, Nat.add_zero, Int.sub_self]
    refine ⟨_, rfl, rfl, _, rfl, ?_⟩
    by_cases e : tot = 0
    · subst e
      refine iteTb (by decide) ?_
      have ef : fnd 0 gs 0 = [gs] := if_pos rfl
      rw [ef] at hlim k
      refine ⟨_, rfl, p, dx, _, rfl, hob, sef_no _ _ (by decide +kernel) (by decide +kernel), _, rfl, p, q, a, many, rs, gs, G, rfl, R, naq, hGa, ha, by have : ([gs] : List (List Int)).length = 1 := rfl; omega, fun H1 B1 R1 => ?_⟩
      exact k H1 B1 R1
    · refine iteFb (decide_eq_false fun z => e (V.int.inj z)) ?_
      have ef : fnd 0 gs tot = [] := if_neg e
      rw [ef, List.append_nil] at k
      exact k H (fun b u e _ => e) R
theorem ebS {f C CSe fC fF fW : Addr} {fd fdC fdF fdW : FuncData} {L m : Nat} (hL : 1 ≤ L) (F : Fun K "extend_by" "Search.extend_by" s_Search_extend_by f fd) (T : Txt K mg C) (TF : TxtF K mg CSe)
    (GC : FnOk P w K mg base CX0 1 fC fdC ["many", "total"] spCh) (bC : Binds K fdC ["many", "total"] []) (mC : mg "_choices" = some (.ref fC)) (kC : PySem.W.keepIn K (.ref fC) = true)
    (GF : FnOk P w K mg base CX0 1 fF fdF ["gap", "ways", "taken"] spFt) (bF : Binds K fdF ["gap", "ways", "taken"] []) (mF : mg "_fits" = some (.ref fF)) (kF : PySem.W.keepIn K (.ref fF) = true)
    (GW : FnOk P w K mg base CX0 1 fW fdW ["taken", "further"] spWt) (bW : Binds K fdW ["taken", "further"] []) (mW : mg "_with_taken" = some (.ref fW)) (kW : PySem.W.keepIn K (.ref fW) = true)
    (GE : FnOk P w K mg base CX0 L f fd ["self", "gaps", "ways", "taken", "total"] (spEb CSe m)) (bE : Binds K fd ["self", "gaps", "ways", "taken", "total"] []) (mE : Meth K CSe "extend_by" f) :
    FnOk P w K mg base CX0 (L + 1) f fd ["self", "gaps", "ways", "taken", "total"] (spEb CSe (m + 1)) := by
  refine F.ok scEb (fun vs H Q E h => ?_) (fun cdv A outer s H vs Q E hr h => ?_)
  · obtain ⟨p, q, a, wl, t, many, tot, rs, gs, ws, kvs, G, rfl, _⟩ := h
    rfl
  · obtain ⟨p, q, a, wl, t, many, tot, rs, gs, ws, kvs, G, rfl, R, hGa, hGn, hm, hm6, ha, hw, ht, naq, nwq, hW, hK, hkl, hS, pos, t1, t2, hlim, k⟩ := h
    obtain ⟨dx, hob⟩ := R.ob
    have hr1 := hr.mono hL
    refine ⟨_, (pss_cons (ps_set (i := 5) scEb.nd rfl (Or.inl rfl) (pe_op op_sub (pe_fld (pv 0) rfl) (pe_callB call_len_seq (by rfl) T.len (by decide +kernel) (pa_cons (pv 1) pa_nil)))) (pss_cons (ps_if (pt_cmpR op_eq (pv 5) pe_int (nomark _)) pss_never pss_nil) (pss_one (ps_for PassesOwn.never rfl (pi_list (pe_call GC hr1 rfl mC kC bC .nil pass0 (pa_cons (pv 5) (pa_cons (pv 4) pa_nil)))) (pg_name (i := 6) scEb.nd rfl (Or.inr rfl)) (pss_one (ps_if (pt_val (pe_call GF hr1 rfl mF kF bF .nil pass0 (pa_cons (pv 6) (pa_cons (pv 2) (pa_cons (pv 3) pa_nil))))) (pss_cons (ps_setLc (i := 7) (own := [("way", 8)]) (g := gName 8) (tt := tYes) (by rfl) scEb.nd rfl rfl (sw_true rfl rfl rfl (by decide +kernel)) (pi_list (pv 2)) (blkOk_by (own := [("way", 8)]) (N := ebN) (sc := (defScope s_Search_extend_by)) (by decide +kernel)) (fun _ _ _ _ _ => (pg_name (i := 8) scEb.nd rfl (Or.inl rfl))) (fun _ _ _ _ _ => pts_nil) (fun _ _ _ _ _ => (pe_op op_add (pv 8) (pv 6)))) (pss_one (ps_expr (pe_meth (pv 0) TF.cl mE GE hr bE .nil pass0 (pa_cons (pe_lst (StX.pa_star (pv 1) (pa_cons (pv 6) pa_nil))) (pa_cons (pe_lst (pa_cons pe_int (StX.pa_star (pv 7) pa_nil))) (pa_cons (pe_call GW hr1 rfl mW kW bW .nil pass0 (pa_cons (pv 3) (pa_cons (pv 7) pa_nil))) (pa_cons (pe_op op_sub (pv 4) (pv 6)) pa_nil)))))))) pss_nil)))))), ?_⟩
    have em : (many : Int) - (((gs.map V.int).length : Nat) : Int) = ((m + 1 : Nat) : Int) := by
      rw [List.length_map]
      omega
    refine ⟨_, rfl, p, CSe, dx, _, _, rfl, hob, TF.cl, TF.nM, sef_M _ _, _, rfl, a, _, rfl, .inl (SqL.of ha), _, _, rfl, rfl, ?_⟩
    dsimp only [gName]
    rw [em]
    refine ⟨_, rfl, rfl, _, rfl, iteFb (decide_eq_false fun z => by have := V.int.inj z; omega) ?_⟩
    refine ⟨_, rfl, _, rfl, m + 1, tot, rfl, by omega, by omega, t1, t2, fun c H1 hc S1 hc1 => ?_⟩
    have efn : fnd (m + 1) gs tot = (chs (m + 1) tot).flatMap fun g => if Spr (gs ++ [g]) then fnd m (gs ++ [g]) (tot - g) else [] := rfl
    rw [efn] at hlim k
    have hcle := chs_le (m := m + 1) (t := tot)
    have hcpos := chs_pos (m := m + 1) (t := tot)
    generalize chs (m + 1) tot = cs at hc1 hlim k hcle hcpos
    obtain ⟨as0, hq0, _, _⟩ := R.ls
    have ncq : c ≠ q := (ne_of_none hq0 hc).symm
    have R1 := R.same S1
    refine ⟨c, rfl, ⟨_, SqL.of hc1⟩, for_list (a := c) (xs := cs.map V.int) (fun i σ H' => ∃ v6 v7 v8 : Option V, σ = [some (.ref p), some (.ref a), some (.ref wl), some (.ref t), some (.int tot), some (.int ((m + 1 : Nat) : Int)), v6, v7, v8] ∧ But q H1 H' ∧
      FndAt CSe G H' p q many (rs ++ (cs.take i).flatMap fun g => if Spr (gs ++ [g]) then fnd m (gs ++ [g]) (tot - g) else [])) ⟨none, none, none, rfl, fun b u e _ => e, by rw [List.take_zero, List.flatMap_nil, List.append_nil]; exact R1⟩ (fun i σ H' _ ⟨_, _, _, _, B, _⟩ => SqL.of (B _ _ hc1 ncq)) ?_ ?_⟩
    · rintro i x σ H2 hx ⟨v6, v7, v8, rfl, B2, R2⟩
      obtain ⟨g, hg, rfl⟩ := map_of hx
      have hgm := List.mem_of_getElem? hg
      have g1 := hcpos g hgm
      have g2 := hcle g hgm
      have ha2 := B2 _ _ (S1 _ _ ha) naq
      have hw2 := B2 _ _ (S1 _ _ hw) nwq
      have ntq : t ≠ q := ne_of ht hq0 (by intro z; cases z)
      have hGn2 : ∀ b, H2 b = none → G b := fun b hb => hGn b (Classical.byContradiction fun z => by
        obtain ⟨u, hu⟩ := Option.ne_none_iff_exists'.mp z
        obtain ⟨as2, hq2, _, _⟩ := R2.ls
        by_cases e : b = q
        · subst e
          rw [hq2] at hb
          cases hb
        · rw [B2 _ _ (S1 _ _ hu) e] at hb
          cases hb)
      have ht2 := B2 _ _ (S1 _ _ ht) ntq
      have etk : (cs.take (i + 1)).flatMap (fun g => if Spr (gs ++ [g]) then fnd m (gs ++ [g]) (tot - g) else []) = (cs.take i).flatMap (fun g => if Spr (gs ++ [g]) then fnd m (gs ++ [g]) (tot - g) else []) ++ (if Spr (gs ++ [g]) then fnd m (gs ++ [g]) (tot - g) else []) := by
        rw [List.take_add_one, hg, List.flatMap_append]
        congr 1
        show _ ++ [] = _
        rw [List.append_nil]
      have hle : ((cs.take (i + 1)).flatMap (fun g => if Spr (gs ++ [g]) then fnd m (gs ++ [g]) (tot - g) else [])).length ≤ (cs.flatMap (fun g => if Spr (gs ++ [g]) then fnd m (gs ++ [g]) (tot - g) else [])).length := by
        have e := congrArg (fun l : List Int => (l.flatMap (fun g => if Spr (gs ++ [g]) then fnd m (gs ++ [g]) (tot - g) else [])).length) (List.take_append_drop (i + 1) cs)
        simp only [List.flatMap_append, List.length_append] at e
        omega
      rw [etk] at hle ⊢
      generalize (cs.take i).flatMap (fun g => if Spr (gs ++ [g]) then fnd m (gs ++ [g]) (tot - g) else []) = done at R2 hle ⊢
      refine ⟨_, rfl, _, rfl, _, rfl, g, wl, t, ws, Ds gs, kvs, rfl, hw2, by rw [hW.1]; omega, ht2, hK, fun H3 S3 => ⟨_, rfl, ?_⟩⟩
      rw [fit_way hW, fit_spr pos hS]
      by_cases hsp : Spr (gs ++ [g])
      · rw [decide_eq_true hsp]
        rw [if_pos hsp] at hle ⊢
        refine iteT ?_
        have hw3 := S3 _ _ hw2
        refine ⟨_, rfl, wl, rfl, ⟨_, SqL.of hw3⟩, fun D hD => lc_map (a := wl) (xs := ws.map V.int) ((ws.map fun x => x + g).map V.int) (SqL.of hw3) hD (by simp) (by rw [List.length_map, hW.1]; omega) (fun i x y H5 Q5 hx hy S5 q5 => ?_) (fun H4 S4 h4 => ?_)⟩
        · obtain ⟨z, hz, rfl⟩ := map_of hx
          obtain ⟨z2, hz2, rfl⟩ := map_of hy
          rw [List.getElem?_map, hz] at hz2
          obtain rfl := (Option.some.inj hz2).symm
          exact ⟨rfl, _, rfl, _, rfl, _, _, rfl, rfl, q5 H5 (Same.refl _)⟩
        have S24 := S3.trans S4
        have ha4 := S24 _ _ ha2
        have ht4 := S24 _ _ ht2
        have R4 := R2.same S24
        obtain ⟨dx4, hob4⟩ := R4.ob
        obtain ⟨as4, hq4, _, _⟩ := R4.ls
        refine ⟨_, rfl, p, dx4, _, rfl, hob4, sef_no _ _ (by decide +kernel) (by decide +kernel), ?_⟩
        refine ⟨_, rfl, a, _, rfl, .inr (SqL.of ha4), _, rfl, by rw [List.length_append, List.length_map]; exact small1000 (by show gs.length ≤ 1000; omega), fun a2 ha2n => ?_⟩
        have n2q : a2 ≠ q := (ne_of_none hq4 ha2n).symm
        have s5 := same_new (o := .lst (gs.map V.int ++ [V.int g])) ha2n
        have ha5 : (upd H4 a2 (.lst (gs.map V.int ++ [V.int g]))) a2 = some (.lst ((gs ++ [g]).map V.int)) := by rw [upd_same, List.map_append]; rfl
        have h4b := s5 _ _ h4
        have ht5 := s5 _ _ ht4
        have R5 := R4.same s5
        have S25 := S24.trans s5
        generalize upd H4 a2 (.lst (gs.map V.int ++ [V.int g])) = H5 at ha5 h4b ht5 R5 S25
        refine ⟨_, rfl, D, _, rfl, .inr (SqL.of h4b), by rw [List.length_cons, List.length_append, List.length_map, List.length_map, hW.1]; exact small1000 (by show gs.length + 1 + 0 ≤ 1000; omega), fun w2 hw2n => ?_⟩
        have nw2q : w2 ≠ q := (ne_of_none (R5.ls.choose_spec.1) hw2n).symm
        have ew : (V.int 0 :: ((ws.map fun x => x + g).map V.int ++ [])) = (0 :: ws.map fun x => x + g).map V.int := by rw [List.append_nil]; rfl
        rw [ew]
        have s6 := same_new (o := .lst ((0 :: ws.map fun x => x + g).map V.int)) hw2n
        have hw6 : (upd H5 w2 (.lst ((0 :: ws.map fun x => x + g).map V.int))) w2 = some (.lst ((0 :: ws.map fun x => x + g).map V.int)) := upd_same
        have ha6 := s6 _ _ ha5
        have hD6 := s6 _ _ h4b
        have ht6 := s6 _ _ ht5
        have R6 := R5.same s6
        have S26 := S25.trans s6
        generalize upd H5 w2 (.lst ((0 :: ws.map fun x => x + g).map V.int)) = H6 at hw6 ha6 hD6 ht6 R6 S26
        refine ⟨_, rfl, _, rfl, t, D, kvs, ws.map fun x => x + g, rfl, ht6, by omega, hD6, by rw [List.length_map, hW.1]; omega, fun t2 kvs2 H7 ht7n S7 ht7 hkl7 hk7 => ?_⟩
        refine ⟨_, rfl, _, rfl, _, _, rfl, rfl, ?_⟩
        rw [List.length_map, hW.1] at hkl7
        have lsn : (gs ++ [g]).length = gs.length + 1 := by rw [List.length_append]; rfl
        refine ⟨p, q, a2, w2, t2, many, tot - g, rs ++ done, gs ++ [g], 0 :: ws.map fun x => x + g, kvs2, G, rfl, R6.same S7, hGn2 _ (S24.free ha2n), fun b hb => hGn2 b (S26.free (S7.free hb)), by rw [lsn]; omega, hm6, S7 _ _ ha6, S7 _ _ hw6, ht7, n2q, nw2q, wayL_snoc hW, fun i => ?_, by rw [lsn]; omega, hsp, fun x hx => ?_, by omega, by omega, ?_, fun H8 B8 R8 => ?_⟩
        · rw [hk7, hK, Bool.eq_iff_iff, Bool.or_eq_true, decide_eq_true_iff, decide_eq_true_iff, decide_eq_true_iff, mem_Ds_snoc hW]
        · rcases List.mem_append.mp hx with hx | hx
          · exact pos x hx
          · rw [List.mem_singleton.mp hx]
            exact g1
        · rw [List.length_append] at hle ⊢
          omega
        · refine ⟨_, _, _, rfl, B2.trans ((Same.but (S26.trans S7)).trans B8), ?_⟩
          rw [List.append_assoc] at R8
          exact R8
      · rw [decide_eq_false hsp, if_neg hsp, List.append_nil]
        exact iteF ⟨_, _, _, rfl, B2.trans (Same.but S3), R2.same S3⟩
    · rintro σ H2 ⟨v6, v7, v8, rfl, B2, R2⟩
      rw [List.length_map, List.take_length] at R2
      exact k H2 ((Same.but S1).trans B2) R2
theorem eb_all {f C CSe fK fC fF fW : Addr} {fd fdK fdC fdF fdW : FuncData} (F : Fun K "extend_by" "Search.extend_by" s_Search_extend_by f fd) (T : Txt K mg C) (TF : TxtF K mg CSe)
    (GK : FnOk P w K mg base CX0 1 fK fdK ["self", "gaps"] (spKp CSe)) (bK : Binds K fdK ["self", "gaps"] []) (mK : Meth K CSe "_keep" fK)
    (GC : FnOk P w K mg base CX0 1 fC fdC ["many", "total"] spCh) (bC : Binds K fdC ["many", "total"] []) (mC : mg "_choices" = some (.ref fC)) (kC : PySem.W.keepIn K (.ref fC) = true)
    (GF : FnOk P w K mg base CX0 1 fF fdF ["gap", "ways", "taken"] spFt) (bF : Binds K fdF ["gap", "ways", "taken"] []) (mF : mg "_fits" = some (.ref fF)) (kF : PySem.W.keepIn K (.ref fF) = true)
    (GW : FnOk P w K mg base CX0 1 fW fdW ["taken", "further"] spWt) (bW : Binds K fdW ["taken", "further"] []) (mW : mg "_with_taken" = some (.ref fW)) (kW : PySem.W.keepIn K (.ref fW) = true)
    (bE : Binds K fd ["self", "gaps", "ways", "taken", "total"] []) (mE : Meth K CSe "extend_by" f) : ∀ m, FnOk P w K mg base CX0 (2 + m) f fd ["self", "gaps", "ways", "taken", "total"] (spEb CSe m)
  | 0 => eb0 F T TF GK bK mK
  | m + 1 => ebS (L := 2 + m) (by omega) F T TF GC bC mC kC GF bF mF kF GW bW mW kW (eb_all F T TF GK bK mK GC bC mC kC GF bF mF kF GW bW mW kW bE mE m) bE mE
theorem ok_eb {f C CSe fK fC fF fW : Addr} {fd fdK fdC fdF fdW : FuncData} (F : Fun K "extend_by" "Search.extend_by" s_Search_extend_by f fd) (T : Txt K mg C) (TF : TxtF K mg CSe)
    (GK : FnOk P w K mg base CX0 1 fK fdK ["self", "gaps"] (spKp CSe)) (bK : Binds K fdK ["self", "gaps"] []) (mK : Meth K CSe "_keep" fK)
    (GC : FnOk P w K mg base CX0 1 fC fdC ["many", "total"] spCh) (bC : Binds K fdC ["many", "total"] []) (mC : mg "_choices" = some (.ref fC)) (kC : PySem.W.keepIn K (.ref fC) = true)
    (GF : FnOk P w K mg base CX0 1 fF fdF ["gap", "ways", "taken"] spFt) (bF : Binds K fdF ["gap", "ways", "taken"] []) (mF : mg "_fits" = some (.ref fF)) (kF : PySem.W.keepIn K (.ref fF) = true)
    (GW : FnOk P w K mg base CX0 1 fW fdW ["taken", "further"] spWt) (bW : Binds K fdW ["taken", "further"] []) (mW : mg "_with_taken" = some (.ref fW)) (kW : PySem.W.keepIn K (.ref fW) = true)
    (bE : Binds K fd ["self", "gaps", "ways", "taken", "total"] []) (mE : Meth K CSe "extend_by" f) : ∀ m, FnOk P w K mg base CX0 (2 + m) f fd ["self", "gaps", "ways", "taken", "total"] (spEb CSe m) :=
  eb_all F T TF GK bK mK GC bC mC kC GF bF mF kF GW bW mW kW bE mE
end
end RS
namespace RS
open PySem L2 Cmb
section
variable {P : Program} {w : World} {K : PySem.W.Frag} {mg : Str → Option Value} {base : Heap}
/-! ### spread_lists -/
/-- a list of lists, made anew -/
structure NewLs (H H' : Hp) (q : Addr) (as : List Addr) (rs : List (List Int)) : Prop where
  same : Same H H'
  q0 : H q = none
  hq : H' q = some (.lst (as.map V.ref))
  new : ∀ a ∈ as, a ≠ q ∧ H a = none
  ls : LsAt H' as rs
def spSl : Sp := fun vs H Q _ => ∃ (m t : Nat), vs = [.int ((m + 1 : Nat) : Int), .int (t : Int)] ∧ m ≤ 6 ∧ t ≤ 60 ∧ (fnd m [] (t : Int)).length ≤ 2000 ∧ ∀ q as H', NewLs H H' q as (fnd m [] (t : Int)) → Q (.ref q) H'
theorem scSl : FnScope ["count", "total", "search"] ["count", "total"] (defScope s_spread_lists) := ⟨rfl, rfl, rfl, by decide +kernel, rfl, by decide +kernel, by decide +kernel⟩
theorem ok_sl {f C CSe fB fI fE fO : Addr} {fd fdB fdI fdE fdO : FuncData} (F : Fun K "spread_lists" "spread_lists" s_spread_lists f fd) (T : Txt K mg C) (TF : TxtF K mg CSe) (MF : Mk K CSe fI) (m7 : ∃ t, mg "_MOST_ATTEMPTS" = some (.int 7 t)) (m60 : ∃ t, mg "_GREATEST_TOTAL" = some (.int 60 t))
    (GB : FnOk P w K mg base CX0 2 fB fdB ["part", "value", "low", "high"] spCbH) (bB : Binds K fdB ["part", "value", "low", "high"] []) (mB : mg "check_bound" = some (.ref fB)) (kB : PySem.W.keepIn K (.ref fB) = true)
    (GI : FnOk P w K mg base CX0 1 fI fdI ["self", "many"] (spSi CSe)) (bI : Binds K fdI ["self", "many"] [])
    (GE : ∀ m, FnOk P w K mg base CX0 (2 + m) fE fdE ["self", "gaps", "ways", "taken", "total"] (spEb CSe m)) (bE : Binds K fdE ["self", "gaps", "ways", "taken", "total"] []) (mE : Meth K CSe "extend_by" fE)
    (GO : FnOk P w K mg base CX0 1 fO fdO ["self"] (spFo CSe)) (bO : Binds K fdO ["self"] []) (mO : Meth K CSe "found" fO) : FnOk P w K mg base CX0 9 f fd ["count", "total"] spSl := by
  obtain ⟨t7, m7⟩ := m7
  obtain ⟨t60, m60⟩ := m60
  refine F.ok scSl (fun vs H Q E h => ?_) (fun cdv A outer s H vs Q E hr h => ?_)
  · obtain ⟨m, t, rfl, _⟩ := h
    rfl
  · obtain ⟨m, t, rfl, hm, ht, hf, k⟩ := h
    have hr1 := hr.mono (show 1 ≤ 8 by decide)
    have hr2 := hr.mono (show 2 ≤ 8 by decide)
    have hrm := hr.mono (show 2 + m ≤ 8 by omega)
    refine ⟨_, (pss_cons (ps_expr (pe_call GB hr2 rfl mB kB bB .nil pass0 (pa_cons pe_str (pa_cons (pv 0) (pa_cons pe_int (pa_cons (pe_glob (v := .int 7) rfl m7 ⟨_, rfl⟩) pa_nil)))))) (pss_cons (ps_expr (pe_call GB hr2 rfl mB kB bB .nil pass0 (pa_cons pe_str (pa_cons (pv 1) (pa_cons pe_int (pa_cons (pe_glob (v := .int 60) rfl m60 ⟨_, rfl⟩) pa_nil)))))) (pss_cons (ps_set (i := 2) scSl.nd rfl (Or.inl rfl) (pe_make MF GI hr2 rfl TF.mgS bI .nil pass0 (pa_cons (pe_op op_sub (pv 0) pe_int) pa_nil))) (pss_cons (ps_expr (pe_meth (pv 2) TF.cl mE (GE m) hrm bE .nil pass0 (pa_cons (pe_lst pa_nil) (pa_cons (pe_lst (pa_cons pe_int pa_nil)) (pa_cons pe_dnewK (pa_cons (pv 1) pa_nil)))))) (pss_one (ps_ret (pe_meth0 (pv 2) TF.cl mO GO hr1 bO .nil pass0))))))), ?_⟩
    refine ⟨_, rfl, _, ((m + 1 : Nat) : Int), 1, 7, rfl, by omega, by omega, ?_⟩
    refine ⟨_, rfl, _, (t : Int), 0, 60, rfl, by omega, by omega, ?_⟩
    have em : ((m + 1 : Nat) : Int) - 1 = (m : Int) := by omega
    refine ⟨_, rfl, _, _, rfl, rfl, ?_⟩
    dsimp only
    rw [em]
    refine fun p dx hp hdx _ => ?_
    have Sm : Same H (upd (upd H dx (.own p)) p (.ins CSe dx [])) := fun b u e => by
      rw [upd_ne (ne_of_none e hp), upd_ne (ne_of_none e hdx)]
      exact e
    refine ⟨p, dx, m, rfl, upd_same, fun q H1 hq B1 R1 => ⟨rfl, ?_⟩⟩
    have R1 := R1 (fun a => H a = none)
    have S1 : Same H H1 := fun c u e => B1 c u (Sm _ _ e) (ne_of_none e hp)
    obtain ⟨dx1, hob1⟩ := R1.ob
    obtain ⟨as1, hq1, _, _⟩ := R1.ls
    have qH : H q = none := Sm.free hq
    refine ⟨_, rfl, p, dx1, _, rfl, hob1, sef_no _ _ (by decide +kernel) (by decide +kernel), ?_⟩
    refine ⟨by show 0 ≤ sizeLine; decide, fun a ha => ?_⟩
    have naq : a ≠ q := (ne_of_none hq1 ha).symm
    have s2 := same_new (o := .lst []) ha
    have ha2 : (upd H1 a (.lst [])) a = some (.lst (([] : List Int).map V.int)) := upd_same
    have S2 := S1.trans s2
    have R2 := R1.same s2
    have hq2 := s2 _ _ hq1
    have aH : H a = none := S1.free ha
    generalize upd H1 a (.lst []) = H2 at ha2 S2 R2 hq2
    refine ⟨by show 1 ≤ sizeLine; decide, fun wl hwl => ?_⟩
    have nwq : wl ≠ q := (ne_of_none hq2 hwl).symm
    have s3 := same_new (o := .lst [V.int 0]) hwl
    have hw3 : (upd H2 wl (.lst [V.int 0])) wl = some (.lst (([0] : List Int).map V.int)) := upd_same
    have S3 := S2.trans s3
    have R3 := R2.same s3
    have ha3 := s3 _ _ ha2
    generalize upd H2 wl (.lst [V.int 0]) = H3 at hw3 S3 R3 ha3
    refine fun d hd => ?_
    have s4 := same_new (o := .dK []) hd
    have hd4 : (upd H3 d (.dK [])) d = some (.dK []) := upd_same
    have S4 := S3.trans s4
    have R4 := R3.same s4
    have ha4 := s4 _ _ ha3
    have hw4 := s4 _ _ hw3
    generalize upd H3 d (.dK []) = H4 at hd4 S4 R4 ha4 hw4
    refine ⟨_, rfl, p, q, a, wl, d, m, (t : Int), [], [], [0], [], fun a => H a = none, rfl, R4, aH, fun b hb => S4.free hb, by show 0 + m = m; omega, hm, ha4, hw4, hd4, naq, nwq, wayL_nil, fun i => rfl, Nat.le_refl _, spr_nil, (fun x h => nomatch h), by omega, by omega, by show 0 + _ ≤ _; rw [Nat.zero_add]; exact hf, fun H5 B5 R5 => ?_⟩
    obtain ⟨dx5, hob5⟩ := R5.ob
    obtain ⟨as, hq5, nas, hls⟩ := R5.ls
    rw [List.nil_append] at hls
    refine ⟨_, rfl, p, dx5, _, rfl, hob5, sef_no _ _ (by decide +kernel) (by decide +kernel), p, q, m, _, _, rfl, R5, k q as H5 ⟨fun b u e => B5 b u (S4 _ _ e) (ne_of_none e qH), qH, hq5, nas, hls⟩⟩
/-! ### shortest -/
/-- what shortest goes through -/
structure Shortest (m lo T : Nat) : Prop where
  eq : ((m + 1 : Nat) : Int) * (((m + 1 : Nat) : Int) - 1) / 2 = (lo : Int)
  le : lo ≤ T
  m6 : m ≤ 6
  t60 : T ≤ 60
  few : ∀ t, lo ≤ t → t ≤ T → (fnd m [] (t : Int)).length ≤ 2000
  none : ∀ t, lo ≤ t → t < T → fnd m [] (t : Int) = []
  some : fnd m [] (T : Int) ≠ []
def spSt : Sp := fun vs H Q _ => ∃ (m lo T : Nat), vs = [.int ((m + 1 : Nat) : Int)] ∧ Shortest m lo T ∧ ∀ tp q as H', NewLs H H' q as (fnd m [] (T : Int)) → H tp = .none → H' tp = some (.tup [.int (T : Int), .ref q]) → Q (.ref tp) H'
theorem scSt : FnScope ["count", "total", "lists"] ["count"] (defScope s_shortest) := ⟨rfl, rfl, rfl, by decide +kernel, rfl, by decide +kernel, by decide +kernel⟩
theorem ok_st {f C fB fS : Addr} {fd fdB fdS : FuncData} (F : Fun K "shortest" "shortest" s_shortest f fd) (T : Txt K mg C) (m7 : ∃ t, mg "_MOST_ATTEMPTS" = some (.int 7 t))
    (GB : FnOk P w K mg base CX0 2 fB fdB ["part", "value", "low", "high"] spCbH) (bB : Binds K fdB ["part", "value", "low", "high"] []) (mB : mg "check_bound" = some (.ref fB)) (kB : PySem.W.keepIn K (.ref fB) = true)
    (GS : FnOk P w K mg base CX0 9 fS fdS ["count", "total"] spSl) (bS : Binds K fdS ["count", "total"] []) (mS : mg "spread_lists" = some (.ref fS)) (kS : PySem.W.keepIn K (.ref fS) = true) : FnOk P w K mg base CX0 10 f fd ["count"] spSt := by
  obtain ⟨t7, m7⟩ := m7
  refine F.ok scSt (fun vs H Q E h => ?_) (fun cdv A outer s H vs Q E hr h => ?_)
  · obtain ⟨m, lo, T, rfl, _⟩ := h
    rfl
  · obtain ⟨m, lo, T, rfl, S, k⟩ := h
    have hm := S.m6
    have hr2 := hr.mono (show 2 ≤ 9 by decide)
    refine ⟨_, (pss_cons (ps_expr (pe_call GB hr2 rfl mB kB bB .nil pass0 (pa_cons pe_str (pa_cons (pv 0) (pa_cons pe_int (pa_cons (pe_glob (v := .int 7) rfl m7 ⟨_, rfl⟩) pa_nil)))))) (pss_cons (ps_set (i := 1) scSt.nd rfl (Or.inl rfl) (pe_op op_fdiv (pe_op op_mul (pv 0) (pe_op op_sub (pv 0) pe_int)) pe_int)) (pss_cons (ps_set (i := 2) scSt.nd rfl (Or.inl rfl) (pe_call GS hr rfl mS kS bS .nil pass0 (pa_cons (pv 0) (pa_cons (pv 1) pa_nil)))) (pss_cons (ps_while PassesOwn.never (pt_not (pt_truth (pv 2) (fun _ => rfl))) (pss_cons (ps_set (i := 1) scSt.nd rfl (Or.inl rfl) (pe_op op_add (pv 1) pe_int)) (pss_one (ps_set (i := 2) scSt.nd rfl (Or.inl rfl) (pe_call GS hr rfl mS kS bS .nil pass0 (pa_cons (pv 0) (pa_cons (pv 1) pa_nil))))))) (pss_one (ps_ret (pe_tup (pa_cons (pv 1) (pa_cons (pv 2) pa_nil))))))))), ?_⟩
    refine ⟨_, rfl, _, ((m + 1 : Nat) : Int), 1, 7, rfl, by omega, by omega, ?_⟩
    refine ⟨_, rfl, _, rfl, _, _, rfl, rfl, _, _, rfl, rfl, .inl ⟨by omega, by omega⟩, _, _, rfl, rfl, ⟨by decide, by decide⟩, ?_⟩
    dsimp only [gName]
    rw [S.eq]
    have hle := S.le
    have h60 := S.t60
    refine ⟨_, rfl, _, rfl, m, lo, rfl, hm, by omega, S.few lo (Nat.le_refl _) S.le, fun q as H1 N1 => ?_⟩
    refine ⟨fun n σ H' => ∃ (t : Nat) (q : Addr) (as : List Addr), n + t = T ∧ lo ≤ t ∧ σ = [some (.int ((m + 1 : Nat) : Int)), some (.int (t : Int)), some (.ref q)] ∧ NewLs H H' q as (fnd m [] (t : Int)), ⟨T - lo, lo, q, as, by omega, Nat.le_refl _, rfl, N1⟩, ?_⟩
    rintro n σ H2 ⟨t, q, as, hnt, hlo, rfl, N2⟩
    refine ⟨_, rfl, _, .inl ⟨_, SqL.of N2.hq, rfl⟩, ?_⟩
    by_cases e : fnd m [] (t : Int) = []
    · have ea : as = [] := List.eq_nil_of_length_eq_zero (by rw [N2.ls.1, e]; rfl)
      subst ea
      have tT : t ≠ T := fun z => S.some (z ▸ e)
      refine iteT ⟨fun σ' H' => ∃ (q : Addr) (as : List Addr), σ' = [some (.int ((m + 1 : Nat) : Int)), some (.int ((t + 1 : Nat) : Int)), some (.ref q)] ∧ NewLs H H' q as (fnd m [] ((t + 1 : Nat) : Int)), ?_, ?_⟩
      · rintro σ' H' ⟨q2, as2, rfl, N3⟩
        exact ⟨n - 1, by omega, t + 1, q2, as2, by omega, by omega, rfl, N3⟩
      · refine ⟨_, rfl, _, _, rfl, rfl, ?_⟩
        refine ⟨_, rfl, _, rfl, m, t + 1, rfl, hm, by omega, S.few (t + 1) (by omega) (by omega), fun q2 as2 H3 N3 => ⟨q2, as2, rfl, N2.same.trans N3.same, N2.same.free N3.q0, N3.hq, fun a ha => ⟨(N3.new a ha).1, N2.same.free (N3.new a ha).2⟩, N3.ls⟩⟩
    · have tT : t = T := Classical.byContradiction fun z => e (S.none t hlo (by omega))
      subst tT
      have ea : as ≠ [] := fun z => e (List.eq_nil_of_length_eq_zero (by rw [← N2.ls.1, z]; rfl))
      have eb : (!(as.map V.ref).isEmpty) = true := by cases as with | nil => exact absurd rfl ea | cons a as => rfl
      refine iteFb (by rw [eb]; rfl) ?_
      refine ⟨_, rfl, _, rfl, by show 2 ≤ sizeLine; decide, fun tp htp => ?_⟩
      have s3 := same_new (o := .tup [V.int (t : Int), .ref q]) htp
      exact k tp q as _ ⟨N2.same.trans s3, N2.q0, s3 _ _ N2.hq, N2.new, N2.ls.keep fun a _ u e => s3 a u e⟩ (N2.same.free htp) upd_same
end
end RS
namespace RS
open PySem L2 Cmb
/-! ### what the search finds, reckoned -/
theorem few_5 : (fnd 5 [] 15).length = 0 ∧ (fnd 5 [] 16).length = 0 ∧ (fnd 5 [] 17).length = 8 := by decide +kernel
theorem few_4 : (fnd 4 [] 10).length = 0 ∧ (fnd 4 [] 11).length = 4 := by decide +kernel
theorem few_3 : (fnd 3 [] 6).length = 2 := by decide +kernel
theorem few_2 : (fnd 2 [] 3).length = 2 := by decide +kernel
theorem few_1 : (fnd 1 [] 1).length = 1 := by decide +kernel
theorem few_0 : (fnd 0 [] 0).length = 1 := by decide +kernel
theorem ne_of_len {l : List (List Int)} {n : Nat} (h : l.length = n) (hn : 0 < n) : l ≠ [] := fun e => by
  rw [e] at h
  have : 0 = n := h
  omega
theorem short_is : ∀ m, m ≤ 5 → ∃ lo T, Shortest m lo T ∧ T ≤ 17 ∧ (fnd m [] (T : Int)).length ≤ 8
  | 0, _ => ⟨0, 0, ⟨by decide, by decide, by decide, by decide, (fun t h1 h2 => by have : t = 0 := by omega
                                                                                   subst this
                                                                                   exact Nat.le_trans (Nat.le_of_eq few_0) (by decide)), (fun t h1 h2 => by omega), ne_of_len few_0 (by decide)⟩, by decide, Nat.le_trans (Nat.le_of_eq few_0) (by decide)⟩
  | 1, _ => ⟨1, 1, ⟨by decide, by decide, by decide, by decide, (fun t h1 h2 => by have : t = 1 := by omega
                                                                                   subst this
                                                                                   exact Nat.le_trans (Nat.le_of_eq few_1) (by decide)), (fun t h1 h2 => by omega), ne_of_len few_1 (by decide)⟩, by decide, Nat.le_trans (Nat.le_of_eq few_1) (by decide)⟩
  | 2, _ => ⟨3, 3, ⟨by decide, by decide, by decide, by decide, (fun t h1 h2 => by have : t = 3 := by omega
                                                                                   subst this
                                                                                   exact Nat.le_trans (Nat.le_of_eq few_2) (by decide)), (fun t h1 h2 => by omega), ne_of_len few_2 (by decide)⟩, by decide, Nat.le_trans (Nat.le_of_eq few_2) (by decide)⟩
  | 3, _ => ⟨6, 6, ⟨by decide, by decide, by decide, by decide, (fun t h1 h2 => by have : t = 6 := by omega
                                                                                   subst this
                                                                                   exact Nat.le_trans (Nat.le_of_eq few_3) (by decide)), (fun t h1 h2 => by omega), ne_of_len few_3 (by decide)⟩, by decide, Nat.le_trans (Nat.le_of_eq few_3) (by decide)⟩
  | 4, _ => ⟨10, 11, ⟨by decide, by decide, by decide, by decide, (fun t h1 h2 => by rcases (show t = 10 ∨ t = 11 by omega) with e | e
                                                                                     · subst e; exact Nat.le_trans (Nat.le_of_eq few_4.1) (by decide)
                                                                                     · subst e; exact Nat.le_trans (Nat.le_of_eq few_4.2) (by decide)), (fun t h1 h2 => by have e : t = 10 := by omega
                                                                                                                                                                           subst e; exact List.eq_nil_of_length_eq_zero few_4.1), ne_of_len few_4.2 (by decide)⟩, by decide, Nat.le_trans (Nat.le_of_eq few_4.2) (by decide)⟩
  | 5, _ => ⟨15, 17, ⟨by decide, by decide, by decide, by decide, (fun t h1 h2 => by rcases (show t = 15 ∨ t = 16 ∨ t = 17 by omega) with e | e | e
                                                                                     · subst e; exact Nat.le_trans (Nat.le_of_eq few_5.1) (by decide)
                                                                                     · subst e; exact Nat.le_trans (Nat.le_of_eq few_5.2.1) (by decide)
                                                                                     · subst e; exact Nat.le_trans (Nat.le_of_eq few_5.2.2) (by decide)), (fun t h1 h2 => by rcases (show t = 15 ∨ t = 16 by omega) with e | e
                                                                                                                                                                             · subst e; exact List.eq_nil_of_length_eq_zero few_5.1
                                                                                                                                                                             · subst e; exact List.eq_nil_of_length_eq_zero few_5.2.1), ne_of_len few_5.2.2 (by decide)⟩, by decide, Nat.le_trans (Nat.le_of_eq few_5.2.2) (by decide)⟩
  | m + 6, h => absurd h (by omega)
end RS
namespace RS
open PySem L2 Cmb
/-! ### a rule that ends behind a list -/
theorem pre_sum (gs : List Int) : pre gs gs.length = gs.sum := by
  unfold pre
  rw [List.take_length]
theorem offF {gs : List Int} {k : Nat} (h : k ≤ gs.length) : (offL gs .fin (gs.length + 1)).getD k 0 = pre gs k := by
  rw [offL_getD gs .fin (by omega), off_low h]
theorem rep_no {gs : List Int} (h : Spr gs) {L : Nat} (hL : L ≤ gs.length + 1) {s : Pr × Pr} : ¬ RepS (offL gs .fin (gs.length + 1)) L s := by
  rintro ⟨⟨i, j, e1, h1, h2⟩, ⟨k, l, e2, h3, h4⟩, hlt, e⟩
  unfold dif at e
  rw [e1, e2] at e
  simp only [Int.toNat_natCast] at e
  rw [offF (by omega), offF (by omega), offF (by omega), offF (by omega)] at e
  obtain ⟨rfl, rfl⟩ := spr_iff.mp h i j k l h1 (by omega) h3 (by omega) e
  rw [e1, e2] at hlt
  exact pLt_irr _ hlt
theorem rep_some {gs : List Int} (h : ¬ Spr gs) : ∃ s, RepS (offL gs .fin (gs.length + 1)) (gs.length + 1) s := by
  refine Classical.byContradiction fun no => h (spr_iff.mpr fun i j k l h1 h2 h3 h4 e => ?_)
  have d1 : dif (offL gs .fin (gs.length + 1)) ((i : Int), (j : Int)) = dif (offL gs .fin (gs.length + 1)) ((k : Int), (l : Int)) := by
    unfold dif
    simp only [Int.toNat_natCast]
    rw [offF (by omega), offF (by omega), offF (by omega), offF (by omega)]
    exact e
  have i1 : InL (gs.length + 1) ((i : Int), (j : Int)) := ⟨i, j, rfl, h1, by omega⟩
  have i2 : InL (gs.length + 1) ((k : Int), (l : Int)) := ⟨k, l, rfl, h3, by omega⟩
  rcases pLt_tri ((i : Int), (j : Int)) ((k : Int), (l : Int)) with z | z | z
  · exact absurd ⟨(((i : Int), (j : Int)), ((k : Int), (l : Int))), i1, i2, z, d1⟩ no
  · have z1 : (i : Int) = k := congrArg Prod.fst z
    have z2 : (j : Int) = l := congrArg Prod.snd z
    exact ⟨by omega, by omega⟩
  · exact absurd ⟨(((k : Int), (l : Int)), ((i : Int), (j : Int))), i2, i1, z, d1.symm⟩ no
theorem rep_spr {gs : List Int} {n : Nat} {r : Option (Pr × Pr)} (hn : TellN gs n .fin) (h : LeastR (offL gs .fin n) r) : r.isNone = decide (Spr gs) := by
  have hn : n = gs.length + 1 := hn
  subst hn
  cases r with
  | none =>
    refine (decide_eq_true (Classical.byContradiction fun z => ?_)).symm
    obtain ⟨s, hs⟩ := rep_some z
    have h : ∀ s, ¬ RepS (offL gs .fin (gs.length + 1)) (offL gs .fin (gs.length + 1)).length s := h
    rw [offL_len] at h
    exact h s hs
  | some r =>
    obtain ⟨L, hL, _, hr, _⟩ : ∃ L, L < (offL gs .fin (gs.length + 1)).length ∧ (∀ s, ¬ RepS (offL gs .fin (gs.length + 1)) L s) ∧ RepS (offL gs .fin (gs.length + 1)) (L + 1) r ∧ ∀ s, RepS (offL gs .fin (gs.length + 1)) (L + 1) s → ¬ qLt s r := h
    rw [offL_len] at hL
    exact (decide_eq_false fun z => rep_no z (by omega) hr).symm
theorem nodup_back : ∀ {m l : List Int}, l.Nodup → (∀ x ∈ l, x ∈ m) → (∀ x ∈ m, x ∈ l) → m.length ≤ l.length → m.Nodup
  | [], _, _, _, _, _ => List.nodup_nil
  | x :: m, l, nd, h1, h2, hl => by
    have hx : x ∉ m := fun hx => by
      have := nodup_le nd (m := m) fun y hy => (List.mem_cons.mp (h1 y hy)).elim (fun e => by rw [e]; exact hx) id
      rw [List.length_cons] at hl
      omega
    have hm := h2 x (List.mem_cons_self ..)
    refine List.nodup_cons.mpr ⟨hx, nodup_back (l := l.erase x) (nd.erase x) (fun y hy => ?_) (fun y hy => ?_) ?_⟩
    · have ne : y ≠ x := fun e => by
        subst e
        exact (List.Nodup.not_mem_erase nd) hy
      exact (List.mem_cons.mp (h1 y (List.mem_of_mem_erase hy))).resolve_left ne
    · exact (List.mem_erase_of_ne (fun (e : y = x) => hx (by rw [← e]; exact hy))).mpr (h2 y (List.mem_cons_of_mem _ hy))
    · rw [List.length_erase_of_mem hm]
      rw [List.length_cons] at hl
      omega
theorem num_pairs : ∀ k, k ≤ 6 → (pairsOf (k + 1)).length = k * (k + 1) / 2 := by decide +kernel
theorem dif_mem {gs : List Int} (pos : ∀ x ∈ gs, 1 ≤ x) {d : Int} : (IsDif gs .fin d ∧ d ≤ gs.sum) ↔ d ∈ Ds gs := by
  have p0 : ∀ k, k ≤ gs.length → 0 ≤ pre gs k := fun k hk => by
    rcases Nat.eq_zero_or_pos k with h | h
    · subst h
      exact Int.le_refl _
    · have := pre_lt pos h hk
      rw [pre_zero] at this
      omega
  have pn : ∀ k, k ≤ gs.length → pre gs k ≤ gs.sum := fun k hk => by
    rw [← pre_sum]
    rcases Nat.lt_or_ge k gs.length with h | h
    · exact Int.le_of_lt (pre_lt pos h (Nat.le_refl _))
    · have : k = gs.length := by omega
      subst this
      exact Int.le_refl _
  rw [mem_Ds]
  constructor
  · rintro ⟨⟨i, j, h1, h2, rfl⟩, _⟩
    have h2 : i ≤ gs.length := h2 rfl
    exact ⟨j, i, h1, h2, by rw [off_low h2, off_low (by omega)]⟩
  · rintro ⟨i, j, h1, h2, rfl⟩
    refine ⟨⟨j, i, h1, fun _ => h2, by rw [off_low h2, off_low (by omega)]⟩, ?_⟩
    have := p0 i (by omega)
    have := pn j h2
    omega
theorem num_spr {gs : List Int} (pos : ∀ x ∈ gs, 1 ≤ x) (h6 : gs.length ≤ 6) {n : Nat} (h : NumD gs .fin gs.sum n) : n = gs.length * (gs.length + 1) / 2 ↔ Spr gs := by
  have dl : (Ds gs).length = gs.length * (gs.length + 1) / 2 := by
    unfold Ds
    rw [List.length_map, num_pairs _ h6]
  have h : NumOf (fun d => d ∈ Ds gs) n := NumOf.congr h fun d => dif_mem pos
  rw [← dl]
  constructor
  · intro e
    obtain ⟨l, nd, hm, hl⟩ := h
    exact nodup_back nd (fun x hx => (hm x).mp hx) (fun x hx => (hm x).mpr hx) (by omega)
  · intro e
    exact h.one ⟨Ds gs, e, fun d => Iff.rfl, rfl⟩
theorem shared_few {gs : List Int} (h : Spr gs) {d : Int} {ps : List Pr} (S : SharedF gs .fin d ps) : ps.length ≤ 1 := by
  match ps, S with
  | [], _ => exact Nat.zero_le _
  | [_], _ => exact Nat.le_refl _
  | p :: q :: r, S =>
    obtain ⟨i, j, e1, h1, h2, _, h3⟩ := S.mem p (List.mem_cons_self ..)
    obtain ⟨k, l, e2, h4, h5, _, h6⟩ := S.mem q (List.mem_cons_of_mem _ (List.mem_cons_self ..))
    have h2 : i ≤ gs.length := h2 rfl
    have h5 : k ≤ gs.length := h5 rfl
    rw [off_low h2, off_low (by omega)] at h3
    rw [off_low h5, off_low (by omega)] at h6
    obtain ⟨a, b⟩ := spr_iff.mp h j i l k h1 h2 h4 h5 (h3.trans h6.symm)
    have := (List.pairwise_cons.mp S.srt).1 q (List.mem_cons_self ..)
    rw [e1, e2] at this
    have this : (j : Int) < (l : Int) := this
    omega
end RS
namespace RS
open PySem L2 Cmb
/-- all gaps of such a list are small -/
theorem Ext.small : ∀ {k : Nat} {r : List Int}, Ext [] k r → k ≤ 12 → Spr r ∧ ∀ x ∈ r, 1 ≤ x ∧ x ≤ 1000000000000 := fun e h => Ext.fine spr_nil (fun x hx => nomatch hx) e (by show 0 + _ ≤ 13; omega)
/-- the law's list of gaps -/
structure LawG (H : Hp) (a g : Addr) (gs : List Int) : Prop where
  hg : H g = some (.lst (gs.map V.int))
  ne : g ≠ a
  all : ∀ x ∈ gs, 1 ≤ x ∧ x ≤ 1000000000000
  l6 : gs.length ≤ 6
theorem LawG.ok {H : Hp} {a g : Addr} {gs : List Int} (G : LawG H a g gs) : GapsOk gs := ⟨by have := G.l6; omega, G.all⟩
theorem LawG.pos {H : Hp} {a g : Addr} {gs : List Int} (G : LawG H a g gs) : ∀ x ∈ gs, 1 ≤ x := fun x hx => (G.all x hx).1
theorem LawG.same {H H' : Hp} {a g : Addr} {gs : List Int} (G : LawG H a g gs) (S : Same H H') : LawG H' a g gs := ⟨S _ _ G.hg, G.ne, G.all, G.l6⟩
theorem LawG.kx {H H' : Hp} {a g : Addr} {gs : List Int} (G : LawG H a g gs) (S : Kx a H H') : LawG H' a g gs := ⟨S _ _ G.ne G.hg, G.ne, G.all, G.l6⟩
theorem sum_small : ∀ {gs : List Int}, (∀ x ∈ gs, 1 ≤ x ∧ x ≤ 1000000000000) → (gs.length : Int) ≤ gs.sum ∧ gs.sum ≤ (gs.length : Int) * 1000000000000
  | [], _ => ⟨Int.le_refl _, Int.le_refl _⟩
  | g :: gs, h => by
    obtain ⟨h1, h2⟩ := sum_small (gs := gs) fun x hx => h x (List.mem_cons_of_mem _ hx)
    have := h g (List.mem_cons_self ..)
    rw [List.sum_cons, List.length_cons]
    constructor <;> omega
theorem le_sum_of : ∀ {gs : List Int}, (∀ x ∈ gs, 1 ≤ x) → ∀ {x : Int}, x ∈ gs → x ≤ gs.sum
  | [], _, _, h => nomatch h
  | g :: gs, h, x, hx => by
    have h0 : ∀ {l : List Int}, (∀ x ∈ l, 1 ≤ x) → 0 ≤ l.sum := fun {l} => by
      induction l with
      | nil => exact fun _ => Int.le_refl _
      | cons y l ih =>
        intro h
        have := ih fun x hx => h x (List.mem_cons_of_mem _ hx)
        have := h y (List.mem_cons_self ..)
        rw [List.sum_cons]
        omega
    have h1 := h0 (l := gs) fun x hx => h x (List.mem_cons_of_mem _ hx)
    have h2 := h g (List.mem_cons_self ..)
    rw [List.sum_cons]
    rcases List.mem_cons.mp hx with rfl | hx
    · omega
    · have := le_sum_of (gs := gs) (fun x hx => h x (List.mem_cons_of_mem _ hx)) hx
      omega
def cellsOf4 (ns : List Int) : List Int := ns.getD 0 0 :: ((ns.drop 1).take 3)
def klN : List Str := ["_law_script", "_law_cell", "_law_source", "_law_gaps", "_law_rule", "_law_good", "_law_pairs", "_law_distance", "_law_step", "_law_k"]
theorem scLaw : FnScope klN ["_law_script"] (defScope s_law) := ⟨rfl, rfl, rfl, by decide +kernel, rfl, by decide +kernel, by decide +kernel⟩
section
variable {P : Program} {w : World} {K : PySem.W.Frag} {mg : Str → Option Value} {base : Heap}
theorem ok_law {f C fI fCell fSrc fN fO fEx fSt fIl fSd fCd fSg fNg : Addr} {fd fdI fdCell fdSrc fdN fdO fdEx fdSt fdIl fdSd fdCd fdSg fdNg : FuncData} (F : Fun K "law" "law" s_law f fd) (T : Txt K mg C) (M : Mk K C fI) (GI : FnOk P w K mg base CX0 3 fI fdI ["self", "gaps", "tail"] (spInit C)) (bI : Binds K fdI ["self", "gaps", "tail"] [])
    (GCell : FnOk P w K mg base CX0 1 fCell fdCell ["_law_script", "_law_k"] (spCell K)) (bCell : Binds K fdCell ["_law_script", "_law_k"] []) (mCell : mg "_law_cell_at" = some (.ref fCell)) (kCell : PySem.W.keepIn K (.ref fCell) = true)
    (GSrc : FnOk P w K mg base CX0 1 fSrc fdSrc ["_law_cell"] spSrcOf) (bSrc : Binds K fdSrc ["_law_cell"] []) (mSrc : mg "_law_source_of" = some (.ref fSrc)) (kSrc : PySem.W.keepIn K (.ref fSrc) = true)
    (GN : FnOk P w K mg base CX0 1 fN fdN ["_law_source", "_law_many"] spNext) (bN : Binds K fdN ["_law_source", "_law_many"] []) (mN : mg "_law_next" = some (.ref fN)) (kN : PySem.W.keepIn K (.ref fN) = true)
    (GO : FnOk P w K mg base CX0 2 fO fdO ["_law_source", "_law_options"] spOne) (bO : Binds K fdO ["_law_source", "_law_options"] []) (mO : mg "_law_one" = some (.ref fO)) (kO : PySem.W.keepIn K (.ref fO) = true)
    (GEx : FnOk P w K mg base CX0 5 fEx fdEx ["gaps", "count"] spEx) (bEx : Binds K fdEx ["gaps", "count"] []) (mEx : mg "extended" = some (.ref fEx)) (kEx : PySem.W.keepIn K (.ref fEx) = true)
    (GSt : FnOk P w K mg base CX0 10 fSt fdSt ["count"] spSt) (bSt : Binds K fdSt ["count"] []) (mSt : mg "shortest" = some (.ref fSt)) (kSt : PySem.W.keepIn K (.ref fSt) = true)
    (GIl : FnOk P w K mg base CX0 3 fIl fdIl ["gaps"] spIl) (bIl : Binds K fdIl ["gaps"] []) (mIl : mg "is_spread_list" = some (.ref fIl)) (kIl : PySem.W.keepIn K (.ref fIl) = true)
    (GSd : FnOk P w K mg base CX0 7 fSd fdSd ["rule"] (spSd2 C)) (bSd : Binds K fdSd ["rule"] []) (mSd : mg "is_spread" = some (.ref fSd)) (kSd : PySem.W.keepIn K (.ref fSd) = true)
    (GCd : FnOk P w K mg base CX0 8 fCd fdCd ["rule", "limit"] (spCd C)) (bCd : Binds K fdCd ["rule", "limit"] []) (mCd : mg "count_distances" = some (.ref fCd)) (kCd : PySem.W.keepIn K (.ref fCd) = true)
    (GSg : FnOk P w K mg base CX0 8 fSg fdSg ["rule", "distance"] (spSg C)) (bSg : Binds K fdSg ["rule", "distance"] []) (mSg : mg "shared_attempts" = some (.ref fSg)) (kSg : PySem.W.keepIn K (.ref fSg) = true)
    (GNg : FnOk P w K mg base CX0 5 fNg fdNg ["gaps", "most"] spNg) (bNg : Binds K fdNg ["gaps", "most"] []) (mNg : mg "next_gaps" = some (.ref fNg)) (kNg : PySem.W.keepIn K (.ref fNg) = true) :
    FnOk P w K mg base CX0 11 f fd ["_law_script"] (spLaw K) := by
  refine F.ok scLaw (fun vs H Q E h => ?_) (fun cdv A outer s H vs Q E hr h => ?_)
  · obtain ⟨a, ns, rfl, _⟩ := h
    rfl
  · obtain ⟨sc, ns, rfl, hs, hn63, k⟩ := h
    have hr1 := hr.mono (show 1 ≤ 10 by decide)
    have hr2 := hr.mono (show 2 ≤ 10 by decide)
    have hr3 := hr.mono (show 3 ≤ 10 by decide)
    have hr4 := hr.mono (show 4 ≤ 10 by decide)
    have hr5 := hr.mono (show 5 ≤ 10 by decide)
    have hr7 := hr.mono (show 7 ≤ 10 by decide)
    have hr8 := hr.mono (show 8 ≤ 10 by decide)
    refine ⟨_, (pss_cons (ps_for PassesOwn.never rfl (pi_list (pe_op op_cat (pe_lst (pa_cons (pe_call GCell hr1 rfl mCell kCell bCell .nil pass0 (pa_cons (pv 0) (pa_cons pe_int pa_nil))) pa_nil)) (pe_slice sl_list (pv 0) (po_some pe_int) (po_some pe_int)))) (pg_name (i := 1) scLaw.nd rfl (Or.inl rfl)) (pss_cons (ps_set (i := 2) scLaw.nd rfl (Or.inr rfl) (pe_call GSrc hr1 rfl mSrc kSrc bSrc .nil pass0 (pa_cons (pv 1) pa_nil))) (pss_cons (ps_set (i := 3) scLaw.nd rfl (Or.inl rfl) (pe_call GEx hr5 rfl mEx kEx bEx .nil pass0 (pa_cons (pe_lst pa_nil) (pa_cons (pe_call GN hr1 rfl mN kN bN .nil pass0 (pa_cons (pv 2) (pa_cons pe_int pa_nil))) pa_nil)))) (Evl.pss_cut (ps_if (pt_cmpR op_eq (pe_call GN hr1 rfl mN kN bN .nil pass0 (pa_cons (pv 2) (pa_cons pe_int pa_nil))) pe_int (nomark _)) (pss_one (ps_setLc (i := 3) (own := [("_law_k", 9)]) (g := gName 9) (tt := tYes) (by rfl) scLaw.nd rfl rfl (sw_true rfl rfl rfl (by decide +kernel)) (pi_range1 rfl T.range (pa_cons (pe_call GN hr1 rfl mN kN bN .nil pass0 (pa_cons (pv 2) (pa_cons pe_int pa_nil))) pa_nil)) (blkOk_by (own := [("_law_k", 9)]) (N := klN) (sc := (defScope s_law)) (by decide +kernel)) (fun _ _ _ _ _ => (pg_name (i := 9) scLaw.nd rfl (Or.inl rfl))) (fun _ _ _ _ _ => pts_nil) (fun _ _ _ _ _ => (pe_op op_add pe_int (pe_call GN hr1 rfl mN kN bN .nil pass0 (pa_cons (pv 2) (pa_cons (pe_call GO hr2 rfl mO kO bO .nil pass0 (pa_cons (pv 2) (pa_cons (pe_lst (pa_cons pe_int (pa_cons pe_int (pa_cons (pe_op op_pow pe_int pe_int) pa_nil)))) pa_nil))) pa_nil))))))) pss_nil) (Evl.pss_cut (ps_if (pt_cmpR op_eq (pe_call GN hr1 rfl mN kN bN .nil pass0 (pa_cons (pv 2) (pa_cons pe_int pa_nil))) pe_int (nomark _)) (pss_one (ps_set (i := 3) scLaw.nd rfl (Or.inl rfl) (pe_call GO hr2 rfl mO kO bO .nil pass0 (pa_cons (pv 2) (pa_cons (pe_ix ix_tup (pe_call GSt hr rfl mSt kSt bSt .nil pass0 (pa_cons (pe_op op_add pe_int (pe_call GN hr1 rfl mN kN bN .nil pass0 (pa_cons (pv 2) (pa_cons pe_int pa_nil)))) pa_nil)) pe_int (fun _ _ => rfl)) pa_nil))))) pss_nil) (pss_cons (ps_set (i := 4) scLaw.nd rfl (Or.inl rfl) (pe_make M GI hr4 rfl T.mgC bI .nil pass0 (pa_cons (pv 3) (pa_cons (pe_tup (pa_cons pe_str pa_nil)) pa_nil)))) (pss_cons (ps_set (i := 5) scLaw.nd rfl (Or.inl rfl) (pe_call GIl hr3 rfl mIl kIl bIl .nil pass0 (pa_cons (pv 3) pa_nil))) (pss_cons (ps_if (pt_cmpR op_ne (pe_call GSd hr7 rfl mSd kSd bSd .nil pass0 (pa_cons (pv 4) pa_nil)) (pv 5) (nomark _)) (pss_one (ps_ret pe_bl)) pss_nil) (pss_cons (ps_set (i := 6) scLaw.nd rfl (Or.inl rfl) (pe_op op_fdiv (pe_op op_mul (pe_callB call_len_seq (by rfl) T.len (by decide +kernel) (pa_cons (pv 3) pa_nil)) (pe_op op_add (pe_callB call_len_seq (by rfl) T.len (by decide +kernel) (pa_cons (pv 3) pa_nil)) pe_int)) pe_int)) (pss_cons (ps_if (pt_cmpR op_ne (pe_cmpR op_eq (pe_call GCd hr8 rfl mCd kCd bCd .nil pass0 (pa_cons (pv 4) (pa_cons (pe_callB (cr_sum rfl) (by rfl) T.sum (by decide +kernel) (pa_cons (pv 3) pa_nil)) pa_nil))) (pv 6) (nomark _)) (pv 5) (nomark _)) (pss_one (ps_ret pe_bl)) pss_nil) (Evl.pss_cut (ps_for PassesOwn.never rfl (pi_range1 rfl T.range (pa_cons pe_int pa_nil)) (pg_name (i := 9) scLaw.nd rfl (Or.inl rfl)) (pss_cons (ps_set (i := 7) scLaw.nd rfl (Or.inl rfl) (pe_op op_add pe_int (pe_call GN hr1 rfl mN kN bN .nil pass0 (pa_cons (pv 2) (pa_cons (pe_op op_add (pe_callB (cr_sum rfl) (by rfl) T.sum (by decide +kernel) (pa_cons (pv 3) pa_nil)) pe_int) pa_nil))))) (pss_one (ps_if (PW.pt (pw_and (pt_val (pv 5)) (pw_and1 (pt_cmpR op_gt (pe_callB call_len_seq (by rfl) T.len (by decide +kernel) (pa_cons (pe_ix ix_tup (pe_call GSg hr8 rfl mSg kSg bSg .nil pass0 (pa_cons (pv 4) (pa_cons (pv 7) pa_nil))) pe_int (fun _ _ => rfl)) pa_nil)) pe_int (nomark _))))) (pss_one (ps_ret pe_bl)) pss_nil)))) (pss_one (ps_if (pt_val (pv 5)) (pss_one (ps_for PassesOwn.never rfl (pi_list (pe_call GNg hr5 rfl mNg kNg bNg .nil pass0 (pa_cons (pv 3) (pa_cons pe_int pa_nil)))) (pg_name (i := 8) scLaw.nd rfl (Or.inl rfl)) (pss_one (ps_if (pt_not (pt_val (pe_call GSd hr7 rfl mSd kSd bSd .nil pass0 (pa_cons (pe_make M GI hr4 rfl T.mgC bI .nil pass0 (pa_cons (pe_op op_cat (pv 3) (pe_lst (pa_cons (pv 8) pa_nil))) (pa_cons (pe_tup (pa_cons pe_str pa_nil)) pa_nil))) pa_nil)))) (pss_one (ps_ret pe_bl)) pss_nil)))) pss_nil))))))))))))) (pss_one (ps_ret pe_bl))), ?_⟩
    -- the cells
    refine ⟨_, rfl, sc, ns, rfl, hs, (by show 1 ≤ sizeLine; decide), fun l1 hl1 => ?_⟩
    refine ⟨_, rfl, _, rfl, _, rfl, sc, _, rfl, (same_new hl1).seq hs, fun l2 hl2 => ?_⟩
    have hl1' := same_new (o := .lst (cutV (ns.map V.int) (some 1) (some 4))) hl2 _ _ (upd_same (H := H) (a := l1) (o := .lst [V.int (ns.getD 0 0)]))
    refine ⟨l1, l2, _, _, rfl, rfl, hl1', upd_same, ?_, fun L hL => ?_⟩
    · have := cutV_length (ns.map V.int) (some 1) (some 4)
      rw [List.length_map] at this
      exact Nat.le_of_lt (small1000 (by show 1 + _ ≤ 1000; omega))
    have ecs : [V.int (ns.getD 0 0)] ++ cutV (ns.map V.int) (some 1) (some 4) = (cellsOf4 ns).map V.int := by
      rw [show (some (1 : Int)) = some ((1 : Nat) : Int) from rfl, show (some (4 : Int)) = some ((4 : Nat) : Int) from rfl, cut_mid]
      unfold cellsOf4
      rw [List.map_cons, List.map_take, List.map_drop]
      rfl
    rw [ecs]
    generalize cellsOf4 ns = cs
    refine ⟨L, rfl, ⟨_, SqL.of upd_same⟩, for_list (a := L) (xs := cs.map V.int) (fun i σ H' => (∃ v1 v2 v3 v4 v5 v6 v7 v8 v9, σ = [some (.ref sc), v1, v2, v3, v4, v5, v6, v7, v8, v9]) ∧ H' L = some (.lst (cs.map V.int))) ⟨⟨_, _, _, _, _, _, _, _, _, rfl⟩, upd_same⟩ (fun i σ H' _ p => SqL.of p.2) ?_ (fun σ H' p => k H')⟩
    rintro i x σ H0 hx ⟨⟨v1, v2, v3, v4, v5, v6, v7, v8, v9, rfl⟩, hL0⟩
    obtain ⟨c, _, rfl⟩ := map_of hx
    clear hx
    refine ⟨_, rfl, c, rfl, fun a H1 ha S1 R1 => ?_⟩
    have nLa : L ≠ a := ne_of_none hL0 ha
    have hL1 := S1 _ _ hL0
    -- extended
    refine ⟨by show 0 ≤ sizeLine; decide, fun e0 he0 => ?_⟩
    have s2 := same_new (o := .lst []) he0
    have he2 : (upd H1 e0 (.lst [])) e0 = some (.lst (([] : List Int).map V.int)) := upd_same
    have hL2 := s2 _ _ hL1
    have R2 := R1.mono s2
    have nea : e0 ≠ a := (R1.new he0).symm
    generalize upd H1 e0 (.lst []) = H2 at he2 hL2 R2
    refine ⟨_, rfl, a, 7, 0, rfl, R2, by omega, by decide, by decide, fun r H3 r0 r1 kx3 R3 => ?_⟩
    obtain ⟨m, rfl⟩ : ∃ m : Nat, r = (m : Int) := ⟨r.toNat, by omega⟩
    refine ⟨e0, [], m, rfl, kx3 _ _ nea he2, ⟨by show 0 ≤ 20; omega, fun x hx => nomatch hx⟩, by show 0 + m ≤ 12; omega, spr_nil, fun g r H4 xt hg S4 hg4 => ?_⟩
    have R4 := R3.mono S4
    have G4 : LawG H4 a g r := ⟨hg4, (R3.new hg).symm, (Ext.small xt (by omega)).2, by rw [xt.len]; show 0 + m ≤ 6; omega⟩
    have hL4 := S4 _ _ (kx3 _ _ nLa hL2)
    clear R3 kx3 s2 he2 hL2 R2 hL1 R1 S1 ha hL0 S4 hg4 hg xt
    -- drawn
    refine ⟨fun σ' H' => ∃ (g : Addr) (gs : List Int) (v1 v4 v5 v6 v7 v8 v9 : Option V), σ' = [some (.ref sc), v1, some (.ref a), some (.ref g), v4, v5, v6, v7, v8, v9] ∧ LawG H' a g gs ∧ H' L = some (.lst (cs.map V.int)) ∧ Src H' a 50, ?_, ?_⟩
    · refine ⟨_, rfl, a, 2, 1, rfl, R4, by omega, by decide, by decide, fun q H5 q0 q1 kx5 R5 => ⟨rfl, _, rfl, ?_⟩⟩
      by_cases hq : q = 0
      case neg => exact iteFb (decide_eq_false fun z => hq (V.int.inj z)) ⟨g, r, _, _, _, _, _, _, _, rfl, G4.kx kx5, kx5 _ _ nLa hL4, R5.le (by omega)⟩
      refine iteTb (decide_eq_true (by rw [hq])) ?_
      have hL5 := kx5 _ _ nLa hL4
      clear kx5 R4 G4 hL4 hq q0 q1
      refine ⟨_, rfl, a, 7, 2, rfl, R5, by omega, by decide, by decide, fun n H6 n0 n1 kx6 R6 => ?_⟩
      obtain ⟨n, rfl⟩ : ∃ n' : Nat, n = (n' : Int) := ⟨n.toNat, by omega⟩
      have hL6 := kx6 _ _ nLa hL5
      clear kx6 R5 hL5
      have hn : (((n : Nat) : Int)).toNat = n := Int.toNat_natCast n
      refine ⟨n, rfl, by omega, by omega, fun D hD => ?_⟩
      have nDa : D ≠ a := (R6.new hD).symm
      have nLD : L ≠ D := ne_of_none hL6 hD
      refine lc_range (lo := 0) (n := (((n : Nat) : Int)).toNat) (fun i H' => H' L = some (.lst (cs.map V.int)) ∧ Src H' a (3 + 2 * i) ∧ ∃ ss : List Int, H' D = some (.lst (ss.map V.int)) ∧ ss.length = i ∧ ∀ x ∈ ss, 1 ≤ x ∧ x ≤ 1000000000000) ⟨same_new hD _ _ hL6, R6.mono (same_new hD), [], upd_same, rfl, (fun x hx => by cases hx)⟩ (fun i H7 hi z => ?_) (fun H7 z => ?_)
      · rw [hn] at hi
        obtain ⟨hL7, R7, ss, hs7, hsl, hsa⟩ := z
        refine ⟨rfl, yes_t (iteT ?_)⟩
        refine ⟨_, rfl, _, rfl, _, _, rfl, rfl, ⟨by decide, by decide, by decide⟩, (by show 3 ≤ sizeLine; decide), fun l0 hl0 => ?_⟩
        have s0 := same_new (o := .lst [V.int 4, .int 12, .int ((10 : Int) ^ (6 : Int).toNat)]) hl0
        refine ⟨a, l0, _, 3 + 2 * i, rfl, R7.mono s0, by omega, (R7.new hl0).symm, upd_same, (by show 0 < 3; decide), (by show 3 < 1000; decide), fun x H8 hx kx8 R8 => ?_⟩
        obtain ⟨wd, rfl, w1, w2⟩ : ∃ wd : Int, x = .int wd ∧ 1 ≤ wd ∧ wd ≤ 1000000 := by
          simp only [List.mem_cons, List.not_mem_nil, or_false] at hx
          rcases hx with rfl | rfl | rfl <;> exact ⟨_, rfl, by decide, by decide⟩
        refine ⟨a, wd, 3 + 2 * i + 1, rfl, R8, by omega, by omega, by omega, fun r H9 r0 r1 kx9 R9 => ?_⟩
        have hs9 := kx9 _ _ nDa (kx8 _ _ nDa (s0 _ _ hs7))
        have hL9 := kx9 _ _ nLa (kx8 _ _ nLa (s0 _ _ hL7))
        refine ⟨_, _, rfl, rfl, _, hs9, by rw [List.length_map]; exact small1000 (by omega), (upd_ne nLD).trans hL9, ?_, ss ++ [1 + r], by rw [upd_same, List.map_append]; rfl, by rw [List.length_append]; show ss.length + 1 = i + 1; omega, fun x hx => ?_⟩
        · obtain ⟨s0, s1, s2, e1, e2⟩ := R9.ex
          exact ⟨s0, s1, s2, (upd_ne (Ne.symm nDa)).trans e1, e2⟩
        · rcases List.mem_append.mp hx with hx | hx
          · exact hsa x hx
          · rw [List.mem_singleton.mp hx]
            omega
      rw [hn] at z
      obtain ⟨hL7, R7, ss, hs7, hsl, hsa⟩ := z
      exact ⟨D, ss, _, _, _, _, _, _, _, rfl, ⟨hs7, nDa, hsa, by omega⟩, hL7, R7.le (by omega)⟩
    clear G4 hL4 R4
    rintro _ H5 ⟨g, gs, v1, v4, v5, v6, v7, v8, v9, rfl, G5, hL5, R5⟩
    -- a shortest one
    refine ⟨fun σ' H' => ∃ (g : Addr) (gs : List Int) (v1 v4 v5 v6 v7 v8 v9 : Option V), σ' = [some (.ref sc), v1, some (.ref a), some (.ref g), v4, v5, v6, v7, v8, v9] ∧ LawG H' a g gs ∧ H' L = some (.lst (cs.map V.int)) ∧ Src H' a 60, ?_, ?_⟩
    · refine ⟨_, rfl, a, 4, 50, rfl, R5, by omega, by decide, by decide, fun q H6 q0 q1 kx6 R6 => ⟨rfl, _, rfl, ?_⟩⟩
      by_cases hq : q = 0
      case neg => exact iteFb (decide_eq_false fun z => hq (V.int.inj z)) ⟨g, gs, _, _, _, _, _, _, _, rfl, G5.kx kx6, kx6 _ _ nLa hL5, R6.le (by omega)⟩
      refine iteTb (decide_eq_true (by rw [hq])) ?_
      have hL6 := kx6 _ _ nLa hL5
      clear kx6 R5 G5 hL5 hq q0 q1
      refine ⟨_, rfl, _, rfl, a, 6, 51, rfl, R6, by omega, by decide, by decide, fun n H7 n0 n1 kx7 R7 => ?_⟩
      obtain ⟨n, en⟩ : ∃ n' : Nat, (1 : Int) + n = ((n' + 1 : Nat) : Int) ∧ n' ≤ 5 := ⟨n.toNat, by omega, by omega⟩
      obtain ⟨en, n5⟩ := en
      have hL7 := kx7 _ _ nLa hL6
      clear kx7 R6 hL6
      obtain ⟨lo, T0, hSh, hT0, hfl⟩ := short_is n n5
      refine ⟨_, _, rfl, rfl, n, lo, T0, congrArg (fun z => [V.int z]) en, hSh, fun tp q as H8 N8 htp htp8 => ?_⟩
      have hL8 := N8.same _ _ hL7
      have R8 := R7.mono N8.same
      have asl : as.length = (fnd n [] (T0 : Int)).length := N8.ls.1
      have hpos : 0 < (fnd n [] (T0 : Int)).length := List.length_pos_iff.mpr hSh.some
      refine ⟨tp, _, _, _, rfl, rfl, SqT.of htp8, atI_nat (j := 1) rfl, a, q, as.map V.ref, 52, rfl, R8, by omega, (R7.new N8.q0).symm, N8.hq, by rw [List.length_map]; omega, by rw [List.length_map]; omega, fun x H9 hx kx9 R9 => ?_⟩
      obtain ⟨ad, had, rfl⟩ := List.mem_map.mp hx
      obtain ⟨r, hr0, hadr⟩ := N8.ls.some_ had
      have nad := (R7.new (N8.new ad had).2).symm
      obtain ⟨b1, b2, b3⟩ := fnd_fine (gs := []) (fun x h => nomatch h) r hr0
      have b2 : r.length = 0 + n := b2
      have b3 : r.sum = 0 + (T0 : Int) := b3
      refine ⟨ad, r, _, _, _, _, _, _, _, rfl, ⟨kx9 _ _ nad hadr, nad, fun x hx => ⟨b1 x hx, ?_⟩, by omega⟩, kx9 _ _ nLa hL8, R9.le (by omega)⟩
      have := le_sum_of b1 hx
      omega
    clear G5 hL5 R5
    rintro _ H6 ⟨g, gs, v1, v4, v5, v6, v7, v8, v9, rfl, G6, hL6, R6⟩
    -- the rule
    refine ⟨_, rfl, by show 1 ≤ sizeLine; decide, fun t ht => ?_⟩
    have s7 := same_new (o := .tup [V.str "end"]) ht
    have ht7 : (upd H6 t (.tup [V.str "end"])) t = some (.tup (Tl.fin).vs) := upd_same
    have G7 := G6.same s7
    have hL7 := s7 _ _ hL6
    have R7 := R6.mono s7
    have nta : t ≠ a := (R6.new ht).symm
    generalize upd H6 t (.tup [V.str "end"]) = H7 at ht7 G7 hL7 R7
    clear s7 G6 hL6 R6 ht
    refine fun p dx hp hdx _ => ?_
    have Sm : Same H7 (upd (upd H7 dx (.own p)) p (.ins C dx [])) := made_same hp hdx
    refine ⟨p, dx, g, t, gs, .fin, rfl, upd_same, Sm _ _ G7.hg, Sm _ _ ht7, G7.ok, trivial, fun g2 o H8 hg2 ho kp Rp8 => ⟨rfl, ?_⟩⟩
    have S8 : Same H7 H8 := fun b u e => kp b u (Sm _ _ e) (ne_of_none e hp)
    have Ra := R7.mono Sm
    have K8 : RK C H8 a p g2 t o gs .fin := ⟨Rp8, (R7.new hp).symm, (Ra.new hg2).symm, nta, (Ra.new ho).symm⟩
    have G8 := G7.same S8
    have hL8 := S8 _ _ hL7
    have R8 := R7.mono S8
    clear Sm hp hdx hg2 ho kp Rp8 S8 Ra G7 hL7 R7 ht7
    have okG := G8.ok
    have pos := G8.pos
    have l6 := G8.l6
    -- good
    refine ⟨_, rfl, g, gs, rfl, G8.hg, okG, by omega, fun H9 S9 => ?_⟩
    have K9 := K8.same S9
    refine ⟨_, rfl, p, g2, t, o, gs, .fin, rfl, K9.R, fun n r H10 hn hr10 S10 => ⟨_, rfl, rfl, _, rfl, iteFb ?_ ?_⟩⟩
    · rw [rep_spr hn hr10]
      simp
    have S810 := S9.trans S10
    have K10 := K8.same S810
    have G10 := G8.same S810
    have hL10 := S810 _ _ hL8
    have R10 := R8.mono S810
    clear S9 S10 S810 K8 K9 G8 hL8 R8 hr10 hn
    -- pairs
    refine ⟨_, rfl, g, _, rfl, .inl (SqL.of G10.hg), _, rfl, g, _, rfl, .inl (SqL.of G10.hg), _, _, rfl, rfl, _, _, rfl, rfl, .inl ⟨by rw [List.length_map]; omega, by rw [List.length_map]; omega⟩, _, _, rfl, rfl, ⟨by decide, by decide⟩, ?_⟩
    obtain ⟨sm1, sm2⟩ := sum_small G10.all
    have sm3 : gs.sum ≤ 6000000000000 := by
      have : (gs.length : Int) * 1000000000000 ≤ 6 * 1000000000000 := Int.mul_le_mul_of_nonneg_right (by omega) (by omega)
      omega
    refine ⟨_, rfl, _, rfl, g, gs, rfl, SqL.of G10.hg, p, g2, t, o, gs, .fin, gs.sum, rfl, K10.R, by omega, by omega, fun n H11 hn S11 => ?_⟩
    refine ⟨_, rfl, rfl, _, rfl, rfl, _, rfl, iteFb ?_ ?_⟩
    · have e : decide (V.int (n : Int) = V.int ((((gs.map V.int).length : Nat) : Int) * ((((gs.map V.int).length : Nat) : Int) + 1) / 2)) = decide (Spr gs) := by
        rw [List.length_map]
        refine decide_eq_decide.mpr ?_
        rw [V.int.injEq, ← num_spr pos l6 hn]
        have e2 : ((gs.length : Nat) : Int) * (((gs.length : Nat) : Int) + 1) / 2 = ((gs.length * (gs.length + 1) / 2 : Nat) : Int) := by push_cast; rfl
        rw [e2]
        omega
      show (!decide (V.bl (decide (V.int (n : Int) = V.int ((((gs.map V.int).length : Nat) : Int) * ((((gs.map V.int).length : Nat) : Int) + 1) / 2))) = V.bl (decide (Spr gs)))) = false
      rw [e]
      simp
    have K11 := K10.same S11
    have G11 := G10.same S11
    have hL11 := S11 _ _ hL10
    have R11 := R10.mono S11
    clear K10 G10 hL10 R10 S11 hn
    -- distances
    refine ⟨fun σ' H' => ∃ (v1 v6 v7 v8 v9 : Option V), σ' = [some (.ref sc), v1, some (.ref a), some (.ref g), some (.ref p), some (.bl (decide (Spr gs))), v6, v7, v8, v9] ∧ LawG H' a g gs ∧ H' L = some (.lst (cs.map V.int)), ?_, ?_⟩
    · refine ⟨5, rfl, by decide, by decide, for_range (lo := 0) (n := 5) (fun i σ' H' => (∃ (v1 v6 v7 v8 v9 : Option V), σ' = [some (.ref sc), v1, some (.ref a), some (.ref g), some (.ref p), some (.bl (decide (Spr gs))), v6, v7, v8, v9]) ∧ LawG H' a g gs ∧ H' L = some (.lst (cs.map V.int)) ∧ Src H' a (60 + i) ∧ RK C H' a p g2 t o gs .fin) ⟨⟨_, _, _, _, _, rfl⟩, G11, hL11, R11, K11⟩ ?_ ?_⟩
      · rintro i σ' H12 hi ⟨⟨v1, v6, v7, v8, v9, rfl⟩, G12, hL12, R12, K12⟩
        refine ⟨_, rfl, _, rfl, g, gs, rfl, SqL.of G12.hg, _, _, rfl, rfl, a, gs.sum + 3, 60 + i, rfl, R12, by omega, by omega, by omega, fun r H13 r0 r1 kx13 R13 => ⟨_, _, rfl, rfl, ?_⟩⟩
        have G13 := G12.kx kx13
        have hL13 := kx13 _ _ nLa hL12
        have K13 := K12.kx kx13
        refine ⟨_, rfl, _, rfl, ?_⟩
        by_cases hS : Spr gs
        case neg => exact iteFb (decide_eq_false hS) ⟨⟨_, _, _, _, _, rfl⟩, G13, hL13, R13, K13⟩
        refine iteTb (decide_eq_true hS) ?_
        refine ⟨_, rfl, _, rfl, p, g2, t, o, gs, .fin, 1 + r, rfl, K13.R, by omega, by omega, fun q w1 w2 us vs ps H14 hq hw1 hw2 n12 nq1 nq2 S14 hq14 hw14 hw24 hus hvs hpl hsh => ?_⟩
        refine ⟨q, _, _, _, rfl, rfl, SqT.of hq14, atI_nat (j := 0) rfl, w1, _, rfl, .inl (SqL.of hw14), _, _, rfl, rfl, _, rfl, iteFb (decide_eq_false ?_) ⟨⟨_, _, _, _, _, rfl⟩, G13.same S14, S14 _ _ hL13, R13.mono S14, K13.same S14⟩⟩
        have ul : us.length = (ps.filter (sglB gs .fin)).length := hus.1
        have fl := List.length_filter_le (sglB gs .fin) ps
        have sf := shared_few hS hsh
        rw [List.length_map]
        omega
      · rintro σ' H12 ⟨⟨v1, v6, v7, v8, v9, rfl⟩, G12, hL12, _, _⟩
        exact ⟨_, _, _, _, _, rfl, G12, hL12⟩
    clear K11 G11 hL11 R11
    rintro _ H12 ⟨v1, v6, v7, v8, v9, rfl, G12, hL12⟩
    -- the gaps that may follow
    refine ⟨_, rfl, _, rfl, ?_⟩
    by_cases hS : Spr gs
    case neg => exact iteFb (decide_eq_false hS) ⟨⟨_, _, _, _, _, _, _, _, _, rfl⟩, hL12⟩
    refine iteTb (decide_eq_true hS) ?_
    refine ⟨_, rfl, g, gs, 12, rfl, G12.hg, okG, by omega, hS, by decide, by decide, fun q H13 hq S13 hq13 => ?_⟩
    have G13 := G12.same S13
    have hL13 := S13 _ _ hL12
    refine ⟨q, rfl, ⟨_, SqL.of hq13⟩, for_list (a := q) (xs := (nextG gs 12).map V.int) (fun i σ' H' => (∃ (v1 v6 v7 v8 v9 : Option V), σ' = [some (.ref sc), v1, some (.ref a), some (.ref g), some (.ref p), some (.bl (decide (Spr gs))), v6, v7, v8, v9]) ∧ Same H13 H') ⟨⟨_, _, _, _, _, rfl⟩, Same.refl _⟩ (fun i σ' H' _ z => SqL.of (z.2 _ _ hq13)) ?_ ?_⟩
    · rintro i x σ' H14 hx ⟨⟨v1, v6, v7, v8, v9, rfl⟩, S14⟩
      obtain ⟨st, hst, rfl⟩ := map_of hx
      obtain ⟨hst1, hst2⟩ := List.mem_filter.mp (show st ∈ ((List.range 12).map fun (i : Nat) => (1 : Int) + (i : Int)).filter fun g => decide (Spr (gs ++ [g])) from List.mem_of_getElem? hst)
      obtain ⟨j, hj, ej⟩ := List.mem_map.mp hst1
      have hj := List.mem_range.mp hj
      have hS2 : Spr (gs ++ [st]) := of_decide_eq_true hst2
      refine ⟨_, rfl, _, rfl, (by show 1 ≤ sizeLine; decide), fun e1 he1 => ?_⟩
      have t1 := same_new (o := .lst [V.int st]) he1
      refine ⟨g, e1, _, _, rfl, rfl, t1 _ _ (S14 _ _ G13.hg), upd_same, by rw [List.length_map]; exact Nat.le_of_lt (small1000 (by show gs.length + 1 ≤ 1000; omega)), fun e2 he2 => ?_⟩
      have t2 := t1.trans (same_new (o := .lst (gs.map V.int ++ [V.int st])) he2)
      have he22 : (upd (upd H14 e1 (.lst [V.int st])) e2 (.lst (gs.map V.int ++ [V.int st]))) e2 = some (.lst ((gs ++ [st]).map V.int)) := by rw [upd_same, List.map_append]; rfl
      generalize (upd (upd H14 e1 (.lst [V.int st])) e2 (.lst (gs.map V.int ++ [V.int st]))) = H15 at t2 he22
      refine ⟨by show 1 ≤ sizeLine; decide, fun t2' ht2 => ?_⟩
      have t3 := same_new (o := .tup [V.str "end"]) ht2
      have ht3 : (upd H15 t2' (.tup [V.str "end"])) t2' = some (.tup (Tl.fin).vs) := upd_same
      have he3 := t3 _ _ he22
      generalize (upd H15 t2' (.tup [V.str "end"])) = H16 at t3 ht3 he3
      refine fun p2 dx hp hdx _ => ?_
      have Sm : Same H16 (upd (upd H16 dx (.own p2)) p2 (.ins C dx [])) := made_same hp hdx
      have ok2 : GapsOk (gs ++ [st]) := ⟨by rw [List.length_append]; show gs.length + 1 ≤ 20; omega, fun x hx => by
        rcases List.mem_append.mp hx with hx | hx
        · exact okG.2 x hx
        · rw [List.mem_singleton.mp hx]
          omega⟩
      refine ⟨p2, dx, e2, t2', gs ++ [st], .fin, rfl, upd_same, Sm _ _ he3, Sm _ _ ht3, ok2, trivial, fun g3 o3 H17 hg3 ho3 kp Rp => ⟨rfl, ?_⟩⟩
      have S17 : Same H16 H17 := fun b u e => kp b u (Sm _ _ e) (ne_of_none e hp)
      refine ⟨p2, g3, t2', o3, gs ++ [st], .fin, rfl, Rp, fun n r H18 hn hr18 S18 => ⟨_, rfl, ?_⟩⟩
      rw [rep_spr hn hr18, decide_eq_true hS2]
      exact iteF ⟨⟨_, _, _, _, _, rfl⟩, S14.trans (t2.trans (t3.trans (S17.trans S18)))⟩
    · rintro σ' H14 ⟨⟨v1, v6, v7, v8, v9, rfl⟩, S14⟩
      exact ⟨⟨_, _, _, _, _, _, _, _, _, rfl⟩, S14 _ _ hL13⟩
end
end RS
namespace RS
open PySem L2
/-! ### what the top has written -/
theorem all_mk {l : PySem.W.OpenLaw} {w : World} {K : PySem.W.Frag} {h : Heap} {mg : Str → Option Value} {fa : Addr}  (X : K.In h) (G : h.Ns mainGlobals mg) (hfa : mg "law" = some (.ref fa)) (hlong : ∃ t, mg "_LONGEST_GAP" = some (.int 1000000000000 t))
    {fa0 : Addr} {oda0 ana0 : Option Addr} {sla0 : Array (Option Value)} {oca0 kVa0 dca0 pma0 cta0 : Value}
    {cda0 : Value}
    {fa1 : Addr} {oda1 ana1 : Option Addr} {sla1 : Array (Option Value)} {oca1 kVa1 dca1 pma1 cta1 : Value}
    {cda1 : Value}
    {fa2 : Addr} {oda2 ana2 : Option Addr} {sla2 : Array (Option Value)} {oca2 kVa2 dca2 pma2 cta2 : Value}
    {cda2 : Value}
    {fa3 : Addr} {oda3 ana3 : Option Addr} {sla3 : Array (Option Value)} {oca3 kVa3 dca3 pma3 cta3 : Value}
    {cda3 : Value}
    {fa4 : Addr} {oda4 ana4 : Option Addr} {sla4 : Array (Option Value)} {oca4 kVa4 dca4 pma4 cta4 : Value}
    {cda4 : Value}
    {fa5 : Addr} {oda5 ana5 : Option Addr} {sla5 : Array (Option Value)} {oca5 kVa5 dca5 pma5 cta5 : Value}
    {cda5 : Value}
    {fa6 : Addr} {oda6 ana6 : Option Addr} {sla6 : Array (Option Value)} {oca6 kVa6 dca6 pma6 cta6 : Value}
    {cda6 : Value}
    {fa7 : Addr} {oda7 ana7 : Option Addr} {sla7 : Array (Option Value)} {oca7 kVa7 dca7 pma7 cta7 : Value}
    {cda7 : Value}
    {fa8 : Addr} {oda8 ana8 : Option Addr} {sla8 : Array (Option Value)} {oca8 kVa8 dca8 pma8 cta8 : Value}
    {cda8 : Value}
    {fa9 : Addr} {oda9 ana9 : Option Addr} {sla9 : Array (Option Value)} {oca9 kVa9 dca9 pma9 cta9 : Value}
    {cda9 : Value}
    {fr10 : Addr} {odr10 anr10 : Option Addr} {slr10 : Array (Option Value)} {ocr10 kVr10 dcr10 pmr10 ctr10 : Value}
    {cdr10 : Value}
    {fr12 : Addr} {odr12 anr12 : Option Addr} {slr12 : Array (Option Value)} {ocr12 kVr12 dcr12 pmr12 ctr12 : Value}
    {cdr12 : Value}
    {fr13 : Addr} {odr13 anr13 : Option Addr} {slr13 : Array (Option Value)} {ocr13 kVr13 dcr13 pmr13 ctr13 : Value}
    {cdr13 : Value}
    {fr14 : Addr} {odr14 anr14 : Option Addr} {slr14 : Array (Option Value)} {ocr14 kVr14 dcr14 pmr14 ctr14 : Value}
    {cdr14 : Value}
    {fr15 : Addr} {odr15 anr15 : Option Addr} {slr15 : Array (Option Value)} {ocr15 kVr15 dcr15 pmr15 ctr15 : Value}
    {cdr15 : Value}
    {fr16 : Addr} {odr16 anr16 : Option Addr} {slr16 : Array (Option Value)} {ocr16 kVr16 dcr16 pmr16 ctr16 : Value}
    {cdr16 : Value}
    {fr17 : Addr} {odr17 anr17 : Option Addr} {slr17 : Array (Option Value)} {ocr17 kVr17 dcr17 pmr17 ctr17 : Value}
    {cdr17 : Value}
    {fr18 : Addr} {odr18 anr18 : Option Addr} {slr18 : Array (Option Value)} {ocr18 kVr18 dcr18 pmr18 ctr18 : Value}
    {cdr18 : Value}
    {fa20 : Addr} {oda20 ana20 : Option Addr} {sla20 : Array (Option Value)} {oca20 kVa20 dca20 pma20 cta20 : Value}
    {cda20 : Value}
    {fa21 : Addr} {oda21 ana21 : Option Addr} {sla21 : Array (Option Value)} {oca21 kVa21 dca21 pma21 cta21 : Value}
    {cda21 : Value}
    {fr22 : Addr} {odr22 anr22 : Option Addr} {slr22 : Array (Option Value)} {ocr22 kVr22 dcr22 pmr22 ctr22 : Value}
    {cdr22 : Value}
    {fr23 : Addr} {odr23 anr23 : Option Addr} {slr23 : Array (Option Value)} {ocr23 kVr23 dcr23 pmr23 ctr23 : Value}
    {cdr23 : Value}
    {fr24 : Addr} {odr24 anr24 : Option Addr} {slr24 : Array (Option Value)} {ocr24 kVr24 dcr24 pmr24 ctr24 : Value}
    {cdr24 : Value}
    {fr25 : Addr} {odr25 anr25 : Option Addr} {slr25 : Array (Option Value)} {ocr25 kVr25 dcr25 pmr25 ctr25 : Value}
    {cdr25 : Value}
    {fr26 : Addr} {odr26 anr26 : Option Addr} {slr26 : Array (Option Value)} {ocr26 kVr26 dcr26 pmr26 ctr26 : Value}
    {cdr26 : Value}
    {fa27 : Addr} {oda27 ana27 : Option Addr} {sla27 : Array (Option Value)} {oca27 kVa27 dca27 pma27 cta27 : Value}
    {cda27 : Value}
    {fa28 : Addr} {oda28 ana28 : Option Addr} {sla28 : Array (Option Value)} {oca28 kVa28 dca28 pma28 cta28 : Value}
    {cda28 : Value}
    {fa29 : Addr} {oda29 ana29 : Option Addr} {sla29 : Array (Option Value)} {oca29 kVa29 dca29 pma29 cta29 : Value}
    {cda29 : Value}
    {fa30 : Addr} {oda30 ana30 : Option Addr} {sla30 : Array (Option Value)} {oca30 kVa30 dca30 pma30 cta30 : Value}
    {cda30 : Value}
    {fa31 : Addr} {oda31 ana31 : Option Addr} {sla31 : Array (Option Value)} {oca31 kVa31 dca31 pma31 cta31 : Value}
    {cda31 : Value}
    {fa32 : Addr} {oda32 ana32 : Option Addr} {sla32 : Array (Option Value)} {oca32 kVa32 dca32 pma32 cta32 : Value}
    {cda32 : Value}
    {fa33 : Addr} {oda33 ana33 : Option Addr} {sla33 : Array (Option Value)} {oca33 kVa33 dca33 pma33 cta33 : Value}
    {cda33 : Value}
    {fa34 : Addr} {oda34 ana34 : Option Addr} {sla34 : Array (Option Value)} {oca34 kVa34 dca34 pma34 cta34 : Value}
    {cda34 : Value}
    {fa35 : Addr} {oda35 ana35 : Option Addr} {sla35 : Array (Option Value)} {oca35 kVa35 dca35 pma35 cta35 : Value}
    {cda35 : Value}
    {fa36 : Addr} {oda36 ana36 : Option Addr} {sla36 : Array (Option Value)} {oca36 kVa36 dca36 pma36 cta36 : Value}
    {cda36 : Value}
    {fa37 : Addr} {oda37 ana37 : Option Addr} {sla37 : Array (Option Value)} {oca37 kVa37 dca37 pma37 cta37 : Value}
    {cda37 : Value}
    {fa38 : Addr} {oda38 ana38 : Option Addr} {sla38 : Array (Option Value)} {oca38 kVa38 dca38 pma38 cta38 : Value}
    {cda38 : Value}
    {fa39 : Addr} {oda39 ana39 : Option Addr} {sla39 : Array (Option Value)} {oca39 kVa39 dca39 pma39 cta39 : Value}
    {cda39 : Value}
    {fa40 : Addr} {oda40 ana40 : Option Addr} {sla40 : Array (Option Value)} {oca40 kVa40 dca40 pma40 cta40 : Value}
    {cda40 : Value}
    {fa41 : Addr} {oda41 ana41 : Option Addr} {sla41 : Array (Option Value)} {oca41 kVa41 dca41 pma41 cta41 : Value}
    {cda41 : Value}
    {fa42 : Addr} {oda42 ana42 : Option Addr} {sla42 : Array (Option Value)} {oca42 kVa42 dca42 pma42 cta42 : Value}
    {cda42 : Value}
    {fa43 : Addr} {oda43 ana43 : Option Addr} {sla43 : Array (Option Value)} {oca43 kVa43 dca43 pma43 cta43 : Value}
    {cda43 : Value}
    {fa44 : Addr} {oda44 ana44 : Option Addr} {sla44 : Array (Option Value)} {oca44 kVa44 dca44 pma44 cta44 : Value}
    {cda44 : Value}
    {fa45 : Addr} {oda45 ana45 : Option Addr} {sla45 : Array (Option Value)} {oca45 kVa45 dca45 pma45 cta45 : Value}
    {cda45 : Value}
    {fa46 : Addr} {oda46 ana46 : Option Addr} {sla46 : Array (Option Value)} {oca46 kVa46 dca46 pma46 cta46 : Value}
    {cda46 : Value}
    {fa47 : Addr} {oda47 ana47 : Option Addr} {sla47 : Array (Option Value)} {oca47 kVa47 dca47 pma47 cta47 : Value}
    {cda47 : Value}
    {fa48 : Addr} {oda48 ana48 : Option Addr} {sla48 : Array (Option Value)} {oca48 kVa48 dca48 pma48 cta48 : Value}
    {cda48 : Value}
    {fa49 : Addr} {oda49 ana49 : Option Addr} {sla49 : Array (Option Value)} {oca49 kVa49 dca49 pma49 cta49 : Value}
    {cda49 : Value}
    {fa50 : Addr} {oda50 ana50 : Option Addr} {sla50 : Array (Option Value)} {oca50 kVa50 dca50 pma50 cta50 : Value}
    {cda50 : Value}
    {fa51 : Addr} {oda51 ana51 : Option Addr} {sla51 : Array (Option Value)} {oca51 kVa51 dca51 pma51 cta51 : Value}
    {cda51 : Value}
    {fs52 : Addr} {ods52 ans52 : Option Addr} {sls52 : Array (Option Value)} {ocs52 kVs52 dcs52 pms52 cts52 : Value}
    {cds52 : Value}
    {fs53 : Addr} {ods53 ans53 : Option Addr} {sls53 : Array (Option Value)} {ocs53 kVs53 dcs53 pms53 cts53 : Value}
    {cds53 : Value}
    {fs54 : Addr} {ods54 ans54 : Option Addr} {sls54 : Array (Option Value)} {ocs54 kVs54 dcs54 pms54 cts54 : Value}
    {cds54 : Value}
    {fa55 : Addr} {oda55 ana55 : Option Addr} {sla55 : Array (Option Value)} {oca55 kVa55 dca55 pma55 cta55 : Value}
    {cda55 : Value}
    {fa56 : Addr} {oda56 ana56 : Option Addr} {sla56 : Array (Option Value)} {oca56 kVa56 dca56 pma56 cta56 : Value}
    {cda56 : Value}
    {fs57 : Addr} {ods57 ans57 : Option Addr} {sls57 : Array (Option Value)} {ocs57 kVs57 dcs57 pms57 cts57 : Value}
    {cds57 : Value}
    {fa58 : Addr} {oda58 ana58 : Option Addr} {sla58 : Array (Option Value)} {oca58 kVa58 dca58 pma58 cta58 : Value}
    {cda58 : Value}
    {fa59 : Addr} {oda59 ana59 : Option Addr} {sla59 : Array (Option Value)} {oca59 kVa59 dca59 pma59 cta59 : Value}
    {cda59 : Value}
    {C : Addr}
    {CSe : Addr}
    {tM : Tok}
    {tF : Tok}
    {tL : Tok}
    {tMG : Tok}
    {tWG : Tok}
    {tMA : Tok}
    {tGT : Tok}
    {tML : Tok}
    (Aa0 : PySem.W.nsIn K mainGlobals "law" = some (some (.ref fa0)))
    (La0 : K.lookup fa0 = some ⟨oca0, oda0, .func (PySem.W.fnOf "law" "law" (defArgs s_law) (defBody s_law) (defScope s_law) .none kVa0 dca0 pma0 ana0 cda0 cta0), sla0⟩) (Ca0 : PySem.W.codeIn K cda0 "law" = true) (Ka0 : PySem.W.keepIn K (.ref fa0) = true)
    (Aa1 : PySem.W.nsIn K mainGlobals "is_integer" = some (some (.ref fa1)))
    (La1 : K.lookup fa1 = some ⟨oca1, oda1, .func (PySem.W.fnOf "is_integer" "is_integer" (defArgs s_is_integer) (defBody s_is_integer) (defScope s_is_integer) .none kVa1 dca1 pma1 ana1 cda1 cta1), sla1⟩) (Ca1 : PySem.W.codeIn K cda1 "is_integer" = true) (Ka1 : PySem.W.keepIn K (.ref fa1) = true)
    (Aa2 : PySem.W.nsIn K mainGlobals "are_gaps" = some (some (.ref fa2)))
    (La2 : K.lookup fa2 = some ⟨oca2, oda2, .func (PySem.W.fnOf "are_gaps" "are_gaps" (defArgs s_are_gaps) (defBody s_are_gaps) (defScope s_are_gaps) .none kVa2 dca2 pma2 ana2 cda2 cta2), sla2⟩) (Ca2 : PySem.W.codeIn K cda2 "are_gaps" = true) (Ka2 : PySem.W.keepIn K (.ref fa2) = true)
    (Aa3 : PySem.W.nsIn K mainGlobals "_is_tail" = some (some (.ref fa3)))
    (La3 : K.lookup fa3 = some ⟨oca3, oda3, .func (PySem.W.fnOf "_is_tail" "_is_tail" (defArgs s_is_tail) (defBody s_is_tail) (defScope s_is_tail) .none kVa3 dca3 pma3 ana3 cda3 cta3), sla3⟩) (Ca3 : PySem.W.codeIn K cda3 "_is_tail" = true) (Ka3 : PySem.W.keepIn K (.ref fa3) = true)
    (Aa4 : PySem.W.nsIn K mainGlobals "sums" = some (some (.ref fa4)))
    (La4 : K.lookup fa4 = some ⟨oca4, oda4, .func (PySem.W.fnOf "sums" "sums" (defArgs s_sums) (defBody s_sums) (defScope s_sums) .none kVa4 dca4 pma4 ana4 cda4 cta4), sla4⟩) (Ca4 : PySem.W.codeIn K cda4 "sums" = true) (Ka4 : PySem.W.keepIn K (.ref fa4) = true)
    (Aa5 : PySem.W.nsIn K mainGlobals "_power" = some (some (.ref fa5)))
    (La5 : K.lookup fa5 = some ⟨oca5, oda5, .func (PySem.W.fnOf "_power" "_power" (defArgs s_power) (defBody s_power) (defScope s_power) .none kVa5 dca5 pma5 ana5 cda5 cta5), sla5⟩) (Ca5 : PySem.W.codeIn K cda5 "_power" = true) (Ka5 : PySem.W.keepIn K (.ref fa5) = true)
    (Aa6 : PySem.W.nsIn K mainGlobals "_law_source_of" = some (some (.ref fa6)))
    (La6 : K.lookup fa6 = some ⟨oca6, oda6, .func (PySem.W.fnOf "_law_source_of" "_law_source_of" (defArgs s_law_source_of) (defBody s_law_source_of) (defScope s_law_source_of) .none kVa6 dca6 pma6 ana6 cda6 cta6), sla6⟩) (Ca6 : PySem.W.codeIn K cda6 "_law_source_of" = true) (Ka6 : PySem.W.keepIn K (.ref fa6) = true)
    (Aa7 : PySem.W.nsIn K mainGlobals "_law_next" = some (some (.ref fa7)))
    (La7 : K.lookup fa7 = some ⟨oca7, oda7, .func (PySem.W.fnOf "_law_next" "_law_next" (defArgs s_law_next) (defBody s_law_next) (defScope s_law_next) .none kVa7 dca7 pma7 ana7 cda7 cta7), sla7⟩) (Ca7 : PySem.W.codeIn K cda7 "_law_next" = true) (Ka7 : PySem.W.keepIn K (.ref fa7) = true)
    (Aa8 : PySem.W.nsIn K mainGlobals "_law_one" = some (some (.ref fa8)))
    (La8 : K.lookup fa8 = some ⟨oca8, oda8, .func (PySem.W.fnOf "_law_one" "_law_one" (defArgs s_law_one) (defBody s_law_one) (defScope s_law_one) .none kVa8 dca8 pma8 ana8 cda8 cta8), sla8⟩) (Ca8 : PySem.W.codeIn K cda8 "_law_one" = true) (Ka8 : PySem.W.keepIn K (.ref fa8) = true)
    (Aa9 : PySem.W.nsIn K mainGlobals "_law_cell_at" = some (some (.ref fa9)))
    (La9 : K.lookup fa9 = some ⟨oca9, oda9, .func (PySem.W.fnOf "_law_cell_at" "_law_cell_at" (defArgs s_law_cell_at) (defBody s_law_cell_at) (defScope s_law_cell_at) .none kVa9 dca9 pma9 ana9 cda9 cta9), sla9⟩) (Ca9 : PySem.W.codeIn K cda9 "_law_cell_at" = true) (Ka9 : PySem.W.keepIn K (.ref fa9) = true)
    (Ar10 : PySem.W.findIn K (.ref C) "__init__" = some (some (.ref fr10))) (Ir10 : PySem.W.isFn K (.ref fr10) = true)
    (Lr10 : K.lookup fr10 = some ⟨ocr10, odr10, .func (PySem.W.fnOf "__init__" "Rule.__init__" (defArgs s_Rule_ddinitdd) (defBody s_Rule_ddinitdd) (defScope s_Rule_ddinitdd) .none kVr10 dcr10 pmr10 anr10 cdr10 ctr10), slr10⟩) (Cr10 : PySem.W.codeIn K cdr10 "Rule.__init__" = true) (Kr10 : PySem.W.keepIn K (.ref fr10) = true)
    (Ar12 : PySem.W.findIn K (.ref C) "first_repeating" = some (some (.ref fr12))) (Ir12 : PySem.W.isFn K (.ref fr12) = true)
    (Lr12 : K.lookup fr12 = some ⟨ocr12, odr12, .func (PySem.W.fnOf "first_repeating" "Rule.first_repeating" (defArgs s_Rule_first_repeating) (defBody s_Rule_first_repeating) (defScope s_Rule_first_repeating) .none kVr12 dcr12 pmr12 anr12 cdr12 ctr12), slr12⟩) (Cr12 : PySem.W.codeIn K cdr12 "Rule.first_repeating" = true) (Kr12 : PySem.W.keepIn K (.ref fr12) = true)
    (Ar13 : PySem.W.findIn K (.ref C) "period" = some (some (.ref fr13))) (Ir13 : PySem.W.isFn K (.ref fr13) = true)
    (Lr13 : K.lookup fr13 = some ⟨ocr13, odr13, .func (PySem.W.fnOf "period" "Rule.period" (defArgs s_Rule_period) (defBody s_Rule_period) (defScope s_Rule_period) .none kVr13 dcr13 pmr13 anr13 cdr13 ctr13), slr13⟩) (Cr13 : PySem.W.codeIn K cdr13 "Rule.period" = true) (Kr13 : PySem.W.keepIn K (.ref fr13) = true)
    (Ar14 : PySem.W.findIn K (.ref C) "gaps" = some (some (.ref fr14))) (Ir14 : PySem.W.isFn K (.ref fr14) = true)
    (Lr14 : K.lookup fr14 = some ⟨ocr14, odr14, .func (PySem.W.fnOf "gaps" "Rule.gaps" (defArgs s_Rule_gaps) (defBody s_Rule_gaps) (defScope s_Rule_gaps) .none kVr14 dcr14 pmr14 anr14 cdr14 ctr14), slr14⟩) (Cr14 : PySem.W.codeIn K cdr14 "Rule.gaps" = true) (Kr14 : PySem.W.keepIn K (.ref fr14) = true)
    (Ar15 : PySem.W.findIn K (.ref C) "tail" = some (some (.ref fr15))) (Ir15 : PySem.W.isFn K (.ref fr15) = true)
    (Lr15 : K.lookup fr15 = some ⟨ocr15, odr15, .func (PySem.W.fnOf "tail" "Rule.tail" (defArgs s_Rule_tail) (defBody s_Rule_tail) (defScope s_Rule_tail) .none kVr15 dcr15 pmr15 anr15 cdr15 ctr15), slr15⟩) (Cr15 : PySem.W.codeIn K cdr15 "Rule.tail" = true) (Kr15 : PySem.W.keepIn K (.ref fr15) = true)
    (Ar16 : PySem.W.findIn K (.ref C) "_check_attempt" = some (some (.ref fr16))) (Ir16 : PySem.W.isFn K (.ref fr16) = true)
    (Lr16 : K.lookup fr16 = some ⟨ocr16, odr16, .func (PySem.W.fnOf "_check_attempt" "Rule._check_attempt" (defArgs s_Rule_check_attempt) (defBody s_Rule_check_attempt) (defScope s_Rule_check_attempt) .none kVr16 dcr16 pmr16 anr16 cdr16 ctr16), slr16⟩) (Cr16 : PySem.W.codeIn K cdr16 "Rule._check_attempt" = true) (Kr16 : PySem.W.keepIn K (.ref fr16) = true)
    (Ar17 : PySem.W.findIn K (.ref C) "_offset_of" = some (some (.ref fr17))) (Ir17 : PySem.W.isFn K (.ref fr17) = true)
    (Lr17 : K.lookup fr17 = some ⟨ocr17, odr17, .func (PySem.W.fnOf "_offset_of" "Rule._offset_of" (defArgs s_Rule_offset_of) (defBody s_Rule_offset_of) (defScope s_Rule_offset_of) .none kVr17 dcr17 pmr17 anr17 cdr17 ctr17), slr17⟩) (Cr17 : PySem.W.codeIn K cdr17 "Rule._offset_of" = true) (Kr17 : PySem.W.keepIn K (.ref fr17) = true)
    (Ar18 : PySem.W.findIn K (.ref C) "offset" = some (some (.ref fr18))) (Ir18 : PySem.W.isFn K (.ref fr18) = true)
    (Lr18 : K.lookup fr18 = some ⟨ocr18, odr18, .func (PySem.W.fnOf "offset" "Rule.offset" (defArgs s_Rule_offset) (defBody s_Rule_offset) (defScope s_Rule_offset) .none kVr18 dcr18 pmr18 anr18 cdr18 ctr18), slr18⟩) (Cr18 : PySem.W.codeIn K cdr18 "Rule.offset" = true) (Kr18 : PySem.W.keepIn K (.ref fr18) = true)
    (Aa20 : PySem.W.nsIn K mainGlobals "listed_offsets" = some (some (.ref fa20)))
    (La20 : K.lookup fa20 = some ⟨oca20, oda20, .func (PySem.W.fnOf "listed_offsets" "listed_offsets" (defArgs s_listed_offsets) (defBody s_listed_offsets) (defScope s_listed_offsets) .none kVa20 dca20 pma20 ana20 cda20 cta20), sla20⟩) (Ca20 : PySem.W.codeIn K cda20 "listed_offsets" = true) (Ka20 : PySem.W.keepIn K (.ref fa20) = true)
    (Aa21 : PySem.W.nsIn K mainGlobals "_first_at_least" = some (some (.ref fa21)))
    (La21 : K.lookup fa21 = some ⟨oca21, oda21, .func (PySem.W.fnOf "_first_at_least" "_first_at_least" (defArgs s_first_at_least) (defBody s_first_at_least) (defScope s_first_at_least) .none kVa21 dca21 pma21 ana21 cda21 cta21), sla21⟩) (Ca21 : PySem.W.codeIn K cda21 "_first_at_least" = true) (Ka21 : PySem.W.keepIn K (.ref fa21) = true)
    (Ar22 : PySem.W.findIn K (.ref C) "_surely_short" = some (some (.ref fr22))) (Ir22 : PySem.W.isFn K (.ref fr22) = true)
    (Lr22 : K.lookup fr22 = some ⟨ocr22, odr22, .func (PySem.W.fnOf "_surely_short" "Rule._surely_short" (defArgs s_Rule_surely_short) (defBody s_Rule_surely_short) (defScope s_Rule_surely_short) .none kVr22 dcr22 pmr22 anr22 cdr22 ctr22), slr22⟩) (Cr22 : PySem.W.codeIn K cdr22 "Rule._surely_short" = true) (Kr22 : PySem.W.keepIn K (.ref fr22) = true)
    (Ar23 : PySem.W.findIn K (.ref C) "_first_growing" = some (some (.ref fr23))) (Ir23 : PySem.W.isFn K (.ref fr23) = true)
    (Lr23 : K.lookup fr23 = some ⟨ocr23, odr23, .func (PySem.W.fnOf "_first_growing" "Rule._first_growing" (defArgs s_Rule_first_growing) (defBody s_Rule_first_growing) (defScope s_Rule_first_growing) .none kVr23 dcr23 pmr23 anr23 cdr23 ctr23), slr23⟩) (Cr23 : PySem.W.codeIn K cdr23 "Rule._first_growing" = true) (Kr23 : PySem.W.keepIn K (.ref fr23) = true)
    (Ar24 : PySem.W.findIn K (.ref C) "_first_repeated" = some (some (.ref fr24))) (Ir24 : PySem.W.isFn K (.ref fr24) = true)
    (Lr24 : K.lookup fr24 = some ⟨ocr24, odr24, .func (PySem.W.fnOf "_first_repeated" "Rule._first_repeated" (defArgs s_Rule_first_repeated) (defBody s_Rule_first_repeated) (defScope s_Rule_first_repeated) .none kVr24 dcr24 pmr24 anr24 cdr24 ctr24), slr24⟩) (Cr24 : PySem.W.codeIn K cdr24 "Rule._first_repeated" = true) (Kr24 : PySem.W.keepIn K (.ref fr24) = true)
    (Ar25 : PySem.W.findIn K (.ref C) "first_from" = some (some (.ref fr25))) (Ir25 : PySem.W.isFn K (.ref fr25) = true)
    (Lr25 : K.lookup fr25 = some ⟨ocr25, odr25, .func (PySem.W.fnOf "first_from" "Rule.first_from" (defArgs s_Rule_first_from) (defBody s_Rule_first_from) (defScope s_Rule_first_from) .none kVr25 dcr25 pmr25 anr25 cdr25 ctr25), slr25⟩) (Cr25 : PySem.W.codeIn K cdr25 "Rule.first_from" = true) (Kr25 : PySem.W.keepIn K (.ref fr25) = true)
    (Ar26 : PySem.W.findIn K (.ref C) "attempt_at" = some (some (.ref fr26))) (Ir26 : PySem.W.isFn K (.ref fr26) = true)
    (Lr26 : K.lookup fr26 = some ⟨ocr26, odr26, .func (PySem.W.fnOf "attempt_at" "Rule.attempt_at" (defArgs s_Rule_attempt_at) (defBody s_Rule_attempt_at) (defScope s_Rule_attempt_at) .none kVr26 dcr26 pmr26 anr26 cdr26 ctr26), slr26⟩) (Cr26 : PySem.W.codeIn K cdr26 "Rule.attempt_at" = true) (Kr26 : PySem.W.keepIn K (.ref fr26) = true)
    (Aa27 : PySem.W.nsIn K mainGlobals "offsets_beyond" = some (some (.ref fa27)))
    (La27 : K.lookup fa27 = some ⟨oca27, oda27, .func (PySem.W.fnOf "offsets_beyond" "offsets_beyond" (defArgs s_offsets_beyond) (defBody s_offsets_beyond) (defScope s_offsets_beyond) .none kVa27 dca27 pma27 ana27 cda27 cta27), sla27⟩) (Ca27 : PySem.W.codeIn K cda27 "offsets_beyond" = true) (Ka27 : PySem.W.keepIn K (.ref fa27) = true)
    (Aa28 : PySem.W.nsIn K mainGlobals "_telling_offsets" = some (some (.ref fa28)))
    (La28 : K.lookup fa28 = some ⟨oca28, oda28, .func (PySem.W.fnOf "_telling_offsets" "_telling_offsets" (defArgs s_telling_offsets) (defBody s_telling_offsets) (defScope s_telling_offsets) .none kVa28 dca28 pma28 ana28 cda28 cta28), sla28⟩) (Ca28 : PySem.W.codeIn K cda28 "_telling_offsets" = true) (Ka28 : PySem.W.keepIn K (.ref fa28) = true)
    (Aa29 : PySem.W.nsIn K mainGlobals "_pairs_by_difference" = some (some (.ref fa29)))
    (La29 : K.lookup fa29 = some ⟨oca29, oda29, .func (PySem.W.fnOf "_pairs_by_difference" "_pairs_by_difference" (defArgs s_pairs_by_difference) (defBody s_pairs_by_difference) (defScope s_pairs_by_difference) .none kVa29 dca29 pma29 ana29 cda29 cta29), sla29⟩) (Ca29 : PySem.W.codeIn K cda29 "_pairs_by_difference" = true) (Ka29 : PySem.W.keepIn K (.ref fa29) = true)
    (Aa30 : PySem.W.nsIn K mainGlobals "_fewest_repeating" = some (some (.ref fa30)))
    (La30 : K.lookup fa30 = some ⟨oca30, oda30, .func (PySem.W.fnOf "_fewest_repeating" "_fewest_repeating" (defArgs s_fewest_repeating) (defBody s_fewest_repeating) (defScope s_fewest_repeating) .none kVa30 dca30 pma30 ana30 cda30 cta30), sla30⟩) (Ca30 : PySem.W.codeIn K cda30 "_fewest_repeating" = true) (Ka30 : PySem.W.keepIn K (.ref fa30) = true)
    (Aa31 : PySem.W.nsIn K mainGlobals "first_repetition" = some (some (.ref fa31)))
    (La31 : K.lookup fa31 = some ⟨oca31, oda31, .func (PySem.W.fnOf "first_repetition" "first_repetition" (defArgs s_first_repetition) (defBody s_first_repetition) (defScope s_first_repetition) .none kVa31 dca31 pma31 ana31 cda31 cta31), sla31⟩) (Ca31 : PySem.W.codeIn K cda31 "first_repetition" = true) (Ka31 : PySem.W.keepIn K (.ref fa31) = true)
    (Aa32 : PySem.W.nsIn K mainGlobals "is_spread" = some (some (.ref fa32)))
    (La32 : K.lookup fa32 = some ⟨oca32, oda32, .func (PySem.W.fnOf "is_spread" "is_spread" (defArgs s_is_spread) (defBody s_is_spread) (defScope s_is_spread) .none kVa32 dca32 pma32 ana32 cda32 cta32), sla32⟩) (Ca32 : PySem.W.codeIn K cda32 "is_spread" = true) (Ka32 : PySem.W.keepIn K (.ref fa32) = true)
    (Aa33 : PySem.W.nsIn K mainGlobals "_check_distance" = some (some (.ref fa33)))
    (La33 : K.lookup fa33 = some ⟨oca33, oda33, .func (PySem.W.fnOf "_check_distance" "_check_distance" (defArgs s_check_distance) (defBody s_check_distance) (defScope s_check_distance) .none kVa33 dca33 pma33 ana33 cda33 cta33), sla33⟩) (Ca33 : PySem.W.codeIn K cda33 "_check_distance" = true) (Ka33 : PySem.W.keepIn K (.ref fa33) = true)
    (Aa34 : PySem.W.nsIn K mainGlobals "_reaching_repeated" = some (some (.ref fa34)))
    (La34 : K.lookup fa34 = some ⟨oca34, oda34, .func (PySem.W.fnOf "_reaching_repeated" "_reaching_repeated" (defArgs s_reaching_repeated) (defBody s_reaching_repeated) (defScope s_reaching_repeated) .none kVa34 dca34 pma34 ana34 cda34 cta34), sla34⟩) (Ca34 : PySem.W.codeIn K cda34 "_reaching_repeated" = true) (Ka34 : PySem.W.keepIn K (.ref fa34) = true)
    (Aa35 : PySem.W.nsIn K mainGlobals "_reaching" = some (some (.ref fa35)))
    (La35 : K.lookup fa35 = some ⟨oca35, oda35, .func (PySem.W.fnOf "_reaching" "_reaching" (defArgs s_reaching) (defBody s_reaching) (defScope s_reaching) .none kVa35 dca35 pma35 ana35 cda35 cta35), sla35⟩) (Ca35 : PySem.W.codeIn K cda35 "_reaching" = true) (Ka35 : PySem.W.keepIn K (.ref fa35) = true)
    (Aa36 : PySem.W.nsIn K mainGlobals "shared_attempts" = some (some (.ref fa36)))
    (La36 : K.lookup fa36 = some ⟨oca36, oda36, .func (PySem.W.fnOf "shared_attempts" "shared_attempts" (defArgs s_shared_attempts) (defBody s_shared_attempts) (defScope s_shared_attempts) .none kVa36 dca36 pma36 ana36 cda36 cta36), sla36⟩) (Ca36 : PySem.W.codeIn K cda36 "shared_attempts" = true) (Ka36 : PySem.W.keepIn K (.ref fa36) = true)
    (Aa37 : PySem.W.nsIn K mainGlobals "check_bound" = some (some (.ref fa37)))
    (La37 : K.lookup fa37 = some ⟨oca37, oda37, .func (PySem.W.fnOf "check_bound" "check_bound" (defArgs s_check_bound) (defBody s_check_bound) (defScope s_check_bound) .none kVa37 dca37 pma37 ana37 cda37 cta37), sla37⟩) (Ca37 : PySem.W.codeIn K cda37 "check_bound" = true) (Ka37 : PySem.W.keepIn K (.ref fa37) = true)
    (Aa38 : PySem.W.nsIn K mainGlobals "single_offsets" = some (some (.ref fa38)))
    (La38 : K.lookup fa38 = some ⟨oca38, oda38, .func (PySem.W.fnOf "single_offsets" "single_offsets" (defArgs s_single_offsets) (defBody s_single_offsets) (defScope s_single_offsets) .none kVa38 dca38 pma38 ana38 cda38 cta38), sla38⟩) (Ca38 : PySem.W.codeIn K cda38 "single_offsets" = true) (Ka38 : PySem.W.keepIn K (.ref fa38) = true)
    (Aa39 : PySem.W.nsIn K mainGlobals "_least_by_residue" = some (some (.ref fa39)))
    (La39 : K.lookup fa39 = some ⟨oca39, oda39, .func (PySem.W.fnOf "_least_by_residue" "_least_by_residue" (defArgs s_least_by_residue) (defBody s_least_by_residue) (defScope s_least_by_residue) .none kVa39 dca39 pma39 ana39 cda39 cta39), sla39⟩) (Ca39 : PySem.W.codeIn K cda39 "_least_by_residue" = true) (Ka39 : PySem.W.keepIn K (.ref fa39) = true)
    (Aa40 : PySem.W.nsIn K mainGlobals "_count_repeating" = some (some (.ref fa40)))
    (La40 : K.lookup fa40 = some ⟨oca40, oda40, .func (PySem.W.fnOf "_count_repeating" "_count_repeating" (defArgs s_count_repeating) (defBody s_count_repeating) (defScope s_count_repeating) .none kVa40 dca40 pma40 ana40 cda40 cta40), sla40⟩) (Ca40 : PySem.W.codeIn K cda40 "_count_repeating" = true) (Ka40 : PySem.W.keepIn K (.ref fa40) = true)
    (Aa41 : PySem.W.nsIn K mainGlobals "_count_growing" = some (some (.ref fa41)))
    (La41 : K.lookup fa41 = some ⟨oca41, oda41, .func (PySem.W.fnOf "_count_growing" "_count_growing" (defArgs s_count_growing) (defBody s_count_growing) (defScope s_count_growing) .none kVa41 dca41 pma41 ana41 cda41 cta41), sla41⟩) (Ca41 : PySem.W.codeIn K cda41 "_count_growing" = true) (Ka41 : PySem.W.keepIn K (.ref fa41) = true)
    (Aa42 : PySem.W.nsIn K mainGlobals "count_distances" = some (some (.ref fa42)))
    (La42 : K.lookup fa42 = some ⟨oca42, oda42, .func (PySem.W.fnOf "count_distances" "count_distances" (defArgs s_count_distances) (defBody s_count_distances) (defScope s_count_distances) .none kVa42 dca42 pma42 ana42 cda42 cta42), sla42⟩) (Ca42 : PySem.W.codeIn K cda42 "count_distances" = true) (Ka42 : PySem.W.keepIn K (.ref fa42) = true)
    (Aa43 : PySem.W.nsIn K mainGlobals "_differences" = some (some (.ref fa43)))
    (La43 : K.lookup fa43 = some ⟨oca43, oda43, .func (PySem.W.fnOf "_differences" "_differences" (defArgs s_differences) (defBody s_differences) (defScope s_differences) .none kVa43 dca43 pma43 ana43 cda43 cta43), sla43⟩) (Ca43 : PySem.W.codeIn K cda43 "_differences" = true) (Ka43 : PySem.W.keepIn K (.ref fa43) = true)
    (Aa44 : PySem.W.nsIn K mainGlobals "_ways_back" = some (some (.ref fa44)))
    (La44 : K.lookup fa44 = some ⟨oca44, oda44, .func (PySem.W.fnOf "_ways_back" "_ways_back" (defArgs s_ways_back) (defBody s_ways_back) (defScope s_ways_back) .none kVa44 dca44 pma44 ana44 cda44 cta44), sla44⟩) (Ca44 : PySem.W.codeIn K cda44 "_ways_back" = true) (Ka44 : PySem.W.keepIn K (.ref fa44) = true)
    (Aa45 : PySem.W.nsIn K mainGlobals "_fits" = some (some (.ref fa45)))
    (La45 : K.lookup fa45 = some ⟨oca45, oda45, .func (PySem.W.fnOf "_fits" "_fits" (defArgs s_fits) (defBody s_fits) (defScope s_fits) .none kVa45 dca45 pma45 ana45 cda45 cta45), sla45⟩) (Ca45 : PySem.W.codeIn K cda45 "_fits" = true) (Ka45 : PySem.W.keepIn K (.ref fa45) = true)
    (Aa46 : PySem.W.nsIn K mainGlobals "is_spread_list" = some (some (.ref fa46)))
    (La46 : K.lookup fa46 = some ⟨oca46, oda46, .func (PySem.W.fnOf "is_spread_list" "is_spread_list" (defArgs s_is_spread_list) (defBody s_is_spread_list) (defScope s_is_spread_list) .none kVa46 dca46 pma46 ana46 cda46 cta46), sla46⟩) (Ca46 : PySem.W.codeIn K cda46 "is_spread_list" = true) (Ka46 : PySem.W.keepIn K (.ref fa46) = true)
    (Aa47 : PySem.W.nsIn K mainGlobals "_check_spread" = some (some (.ref fa47)))
    (La47 : K.lookup fa47 = some ⟨oca47, oda47, .func (PySem.W.fnOf "_check_spread" "_check_spread" (defArgs s_check_spread) (defBody s_check_spread) (defScope s_check_spread) .none kVa47 dca47 pma47 ana47 cda47 cta47), sla47⟩) (Ca47 : PySem.W.codeIn K cda47 "_check_spread" = true) (Ka47 : PySem.W.keepIn K (.ref fa47) = true)
    (Aa48 : PySem.W.nsIn K mainGlobals "_check_room" = some (some (.ref fa48)))
    (La48 : K.lookup fa48 = some ⟨oca48, oda48, .func (PySem.W.fnOf "_check_room" "_check_room" (defArgs s_check_room) (defBody s_check_room) (defScope s_check_room) .none kVa48 dca48 pma48 ana48 cda48 cta48), sla48⟩) (Ca48 : PySem.W.codeIn K cda48 "_check_room" = true) (Ka48 : PySem.W.keepIn K (.ref fa48) = true)
    (Aa49 : PySem.W.nsIn K mainGlobals "next_gaps" = some (some (.ref fa49)))
    (La49 : K.lookup fa49 = some ⟨oca49, oda49, .func (PySem.W.fnOf "next_gaps" "next_gaps" (defArgs s_next_gaps) (defBody s_next_gaps) (defScope s_next_gaps) .none kVa49 dca49 pma49 ana49 cda49 cta49), sla49⟩) (Ca49 : PySem.W.codeIn K cda49 "next_gaps" = true) (Ka49 : PySem.W.keepIn K (.ref fa49) = true)
    (Aa50 : PySem.W.nsIn K mainGlobals "_least_gap" = some (some (.ref fa50)))
    (La50 : K.lookup fa50 = some ⟨oca50, oda50, .func (PySem.W.fnOf "_least_gap" "_least_gap" (defArgs s_least_gap) (defBody s_least_gap) (defScope s_least_gap) .none kVa50 dca50 pma50 ana50 cda50 cta50), sla50⟩) (Ca50 : PySem.W.codeIn K cda50 "_least_gap" = true) (Ka50 : PySem.W.keepIn K (.ref fa50) = true)
    (Aa51 : PySem.W.nsIn K mainGlobals "extended" = some (some (.ref fa51)))
    (La51 : K.lookup fa51 = some ⟨oca51, oda51, .func (PySem.W.fnOf "extended" "extended" (defArgs s_extended) (defBody s_extended) (defScope s_extended) .none kVa51 dca51 pma51 ana51 cda51 cta51), sla51⟩) (Ca51 : PySem.W.codeIn K cda51 "extended" = true) (Ka51 : PySem.W.keepIn K (.ref fa51) = true)
    (As52 : PySem.W.findIn K (.ref CSe) "__init__" = some (some (.ref fs52))) (Is52 : PySem.W.isFn K (.ref fs52) = true)
    (Ls52 : K.lookup fs52 = some ⟨ocs52, ods52, .func (PySem.W.fnOf "__init__" "Search.__init__" (defArgs s_Search_ddinitdd) (defBody s_Search_ddinitdd) (defScope s_Search_ddinitdd) .none kVs52 dcs52 pms52 ans52 cds52 cts52), sls52⟩) (Cs52 : PySem.W.codeIn K cds52 "Search.__init__" = true) (Ks52 : PySem.W.keepIn K (.ref fs52) = true)
    (As53 : PySem.W.findIn K (.ref CSe) "found" = some (some (.ref fs53))) (Is53 : PySem.W.isFn K (.ref fs53) = true)
    (Ls53 : K.lookup fs53 = some ⟨ocs53, ods53, .func (PySem.W.fnOf "found" "Search.found" (defArgs s_Search_found) (defBody s_Search_found) (defScope s_Search_found) .none kVs53 dcs53 pms53 ans53 cds53 cts53), sls53⟩) (Cs53 : PySem.W.codeIn K cds53 "Search.found" = true) (Ks53 : PySem.W.keepIn K (.ref fs53) = true)
    (As54 : PySem.W.findIn K (.ref CSe) "_keep" = some (some (.ref fs54))) (Is54 : PySem.W.isFn K (.ref fs54) = true)
    (Ls54 : K.lookup fs54 = some ⟨ocs54, ods54, .func (PySem.W.fnOf "_keep" "Search._keep" (defArgs s_Search_keep) (defBody s_Search_keep) (defScope s_Search_keep) .none kVs54 dcs54 pms54 ans54 cds54 cts54), sls54⟩) (Cs54 : PySem.W.codeIn K cds54 "Search._keep" = true) (Ks54 : PySem.W.keepIn K (.ref fs54) = true)
    (Aa55 : PySem.W.nsIn K mainGlobals "_choices" = some (some (.ref fa55)))
    (La55 : K.lookup fa55 = some ⟨oca55, oda55, .func (PySem.W.fnOf "_choices" "_choices" (defArgs s_choices) (defBody s_choices) (defScope s_choices) .none kVa55 dca55 pma55 ana55 cda55 cta55), sla55⟩) (Ca55 : PySem.W.codeIn K cda55 "_choices" = true) (Ka55 : PySem.W.keepIn K (.ref fa55) = true)
    (Aa56 : PySem.W.nsIn K mainGlobals "_with_taken" = some (some (.ref fa56)))
    (La56 : K.lookup fa56 = some ⟨oca56, oda56, .func (PySem.W.fnOf "_with_taken" "_with_taken" (defArgs s_with_taken) (defBody s_with_taken) (defScope s_with_taken) .none kVa56 dca56 pma56 ana56 cda56 cta56), sla56⟩) (Ca56 : PySem.W.codeIn K cda56 "_with_taken" = true) (Ka56 : PySem.W.keepIn K (.ref fa56) = true)
    (As57 : PySem.W.findIn K (.ref CSe) "extend_by" = some (some (.ref fs57))) (Is57 : PySem.W.isFn K (.ref fs57) = true)
    (Ls57 : K.lookup fs57 = some ⟨ocs57, ods57, .func (PySem.W.fnOf "extend_by" "Search.extend_by" (defArgs s_Search_extend_by) (defBody s_Search_extend_by) (defScope s_Search_extend_by) .none kVs57 dcs57 pms57 ans57 cds57 cts57), sls57⟩) (Cs57 : PySem.W.codeIn K cds57 "Search.extend_by" = true) (Ks57 : PySem.W.keepIn K (.ref fs57) = true)
    (Aa58 : PySem.W.nsIn K mainGlobals "spread_lists" = some (some (.ref fa58)))
    (La58 : K.lookup fa58 = some ⟨oca58, oda58, .func (PySem.W.fnOf "spread_lists" "spread_lists" (defArgs s_spread_lists) (defBody s_spread_lists) (defScope s_spread_lists) .none kVa58 dca58 pma58 ana58 cda58 cta58), sla58⟩) (Ca58 : PySem.W.codeIn K cda58 "spread_lists" = true) (Ka58 : PySem.W.keepIn K (.ref fa58) = true)
    (Aa59 : PySem.W.nsIn K mainGlobals "shortest" = some (some (.ref fa59)))
    (La59 : K.lookup fa59 = some ⟨oca59, oda59, .func (PySem.W.fnOf "shortest" "shortest" (defArgs s_shortest) (defBody s_shortest) (defScope s_shortest) .none kVa59 dca59 pma59 ana59 cda59 cta59), sla59⟩) (Ca59 : PySem.W.codeIn K cda59 "shortest" = true) (Ka59 : PySem.W.keepIn K (.ref fa59) = true)
    (aC : PySem.W.nsIn K mainGlobals "Rule" = some (some (.ref C)))
    (pg : PySem.W.plainGet K C Str.empty = true)
    (hd : PySem.W.hasDictIn K C = true)
    (po : PySem.W.plainOver K C = true)
    (sa : PySem.W.findIn K (.ref C) "__setattr__" = some (some (.builtin "object.__setattr__")))
    (mk : PySem.W.makesIn K C = true)
    (kc : PySem.W.keepIn K (.ref C) = true)
    (n0 : PySem.W.findIn K (.ref C) "_gaps" = some none)
    (n1 : PySem.W.findIn K (.ref C) "_tail" = some none)
    (n2 : PySem.W.findIn K (.ref C) "_offsets" = some none)
    (aC_se : PySem.W.nsIn K mainGlobals "Search" = some (some (.ref CSe)))
    (pg_se : PySem.W.plainGet K CSe Str.empty = true)
    (hd_se : PySem.W.hasDictIn K CSe = true)
    (po_se : PySem.W.plainOver K CSe = true)
    (sa_se : PySem.W.findIn K (.ref CSe) "__setattr__" = some (some (.builtin "object.__setattr__")))
    (mk_se : PySem.W.makesIn K CSe = true)
    (kc_se : PySem.W.keepIn K (.ref CSe) = true)
    (n0_se : PySem.W.findIn K (.ref CSe) "_many" = some none)
    (n1_se : PySem.W.findIn K (.ref CSe) "_found" = some none)
    (z_len : PySem.W.nsIn K mainGlobals "len" = some none)
    (z_isinstance : PySem.W.nsIn K mainGlobals "isinstance" = some none)
    (z_int : PySem.W.nsIn K mainGlobals "int" = some none)
    (z_bool : PySem.W.nsIn K mainGlobals "bool" = some none)
    (z_list : PySem.W.nsIn K mainGlobals "list" = some none)
    (z_tuple : PySem.W.nsIn K mainGlobals "tuple" = some none)
    (z_str : PySem.W.nsIn K mainGlobals "str" = some none)
    (z_all : PySem.W.nsIn K mainGlobals "all" = some none)
    (z_range : PySem.W.nsIn K mainGlobals "range" = some none)
    (z_divmod : PySem.W.nsIn K mainGlobals "divmod" = some none)
    (z_sum : PySem.W.nsIn K mainGlobals "sum" = some none)
    (z_max : PySem.W.nsIn K mainGlobals "max" = some none)
    (z_min : PySem.W.nsIn K mainGlobals "min" = some none)
    (z_sorted : PySem.W.nsIn K mainGlobals "sorted" = some none)
    (z_set : PySem.W.nsIn K mainGlobals "set" = some none)
    (z_any : PySem.W.nsIn K mainGlobals "any" = some none)
    (z_enumerate : PySem.W.nsIn K mainGlobals "enumerate" = some none)
    (z_dict : PySem.W.nsIn K mainGlobals "dict" = some none)
    (zcmb : PySem.W.nsIn K mainGlobals "combinations" = some (some (.type "itertools.combinations")))
    (c_tM : PySem.W.nsIn K mainGlobals "MOST_GAPS_rules" = some (some (.int 20 tM)))
    (c_tF : PySem.W.nsIn K mainGlobals "_GREATEST_FACTOR" = some (some (.int 1000 tF)))
    (c_tL : PySem.W.nsIn K mainGlobals "LAST_GROWING" = some (some (.int 1000 tL)))
    (c_tMG : PySem.W.nsIn K mainGlobals "MOST_GAPS_short" = some (some (.int 12 tMG)))
    (c_tWG : PySem.W.nsIn K mainGlobals "_WIDEST_GAP" = some (some (.int 2000 tWG)))
    (c_tMA : PySem.W.nsIn K mainGlobals "_MOST_ATTEMPTS" = some (some (.int 7 tMA)))
    (c_tGT : PySem.W.nsIn K mainGlobals "_GREATEST_TOTAL" = some (some (.int 60 tGT)))
    (c_tML : PySem.W.nsIn K mainGlobals "_MOST_LISTS" = some (some (.int 2000 tML))) :
    ∃ fd : FuncData, (∀ (s : Shared) (v : Value), BindsTo s fd ⟨[v], []⟩ [("_law_script", v)]) ∧ ∀ base : Heap, K.In base → base.Ns mainGlobals mg → FnOk l.prog w K mg base CX0 11 fa fd ["_law_script"] (spLaw K) := by
  have e := hfa.symm.trans (PySem.W.mg_of X G Aa0)
  cases e
  have T : Txt K mg C := ⟨⟨pg, hd, po, sa⟩, n0, n1, n2, PySem.W.mg_of X G aC, PySem.W.mg_none_of X G z_len, PySem.W.mg_none_of X G z_isinstance, PySem.W.mg_none_of X G z_int, PySem.W.mg_none_of X G z_bool, PySem.W.mg_none_of X G z_list, PySem.W.mg_none_of X G z_tuple, PySem.W.mg_none_of X G z_str, PySem.W.mg_none_of X G z_all, PySem.W.mg_none_of X G z_range, PySem.W.mg_none_of X G z_divmod, PySem.W.mg_none_of X G z_sum, PySem.W.mg_none_of X G z_max, PySem.W.mg_none_of X G z_min, PySem.W.mg_none_of X G z_sorted, PySem.W.mg_none_of X G z_set, PySem.W.mg_none_of X G z_any, PySem.W.mg_none_of X G z_enumerate, ⟨tM, PySem.W.mg_of X G c_tM⟩, hlong, ⟨tF, PySem.W.mg_of X G c_tF⟩, ⟨tL, PySem.W.mg_of X G c_tL⟩⟩
  have M : Mk K C fr10 := ⟨mk, Ar10, Ir10, kc⟩
  have M_se : Mk K CSe fs52 := ⟨mk_se, As52, Is52, kc_se⟩
  have TF := (⟨⟨pg_se, hd_se, po_se, sa_se⟩, n0_se, n1_se, PySem.W.mg_of X G aC_se⟩ : TxtF K mg CSe)
  have Fa0 := fun_mk (st := s_law) La0 Ca0 Ka0
  have Fa1 := fun_mk (st := s_is_integer) La1 Ca1 Ka1
  have Fa2 := fun_mk (st := s_are_gaps) La2 Ca2 Ka2
  have Fa3 := fun_mk (st := s_is_tail) La3 Ca3 Ka3
  have Fa4 := fun_mk (st := s_sums) La4 Ca4 Ka4
  have Fa5 := fun_mk (st := s_power) La5 Ca5 Ka5
  have Fa6 := fun_mk (st := s_law_source_of) La6 Ca6 Ka6
  have Fa7 := fun_mk (st := s_law_next) La7 Ca7 Ka7
  have Fa8 := fun_mk (st := s_law_one) La8 Ca8 Ka8
  have Fa9 := fun_mk (st := s_law_cell_at) La9 Ca9 Ka9
  have Fr10 := fun_mk (st := s_Rule_ddinitdd) Lr10 Cr10 Kr10
  have Fr12 := fun_mk (st := s_Rule_first_repeating) Lr12 Cr12 Kr12
  have Fr13 := fun_mk (st := s_Rule_period) Lr13 Cr13 Kr13
  have Fr14 := fun_mk (st := s_Rule_gaps) Lr14 Cr14 Kr14
  have Fr15 := fun_mk (st := s_Rule_tail) Lr15 Cr15 Kr15
  have Fr16 := fun_mk (st := s_Rule_check_attempt) Lr16 Cr16 Kr16
  have Fr17 := fun_mk (st := s_Rule_offset_of) Lr17 Cr17 Kr17
  have Fr18 := fun_mk (st := s_Rule_offset) Lr18 Cr18 Kr18
  have Fa20 := fun_mk (st := s_listed_offsets) La20 Ca20 Ka20
  have Fa21 := fun_mk (st := s_first_at_least) La21 Ca21 Ka21
  have Fr22 := fun_mk (st := s_Rule_surely_short) Lr22 Cr22 Kr22
  have Fr23 := fun_mk (st := s_Rule_first_growing) Lr23 Cr23 Kr23
  have Fr24 := fun_mk (st := s_Rule_first_repeated) Lr24 Cr24 Kr24
  have Fr25 := fun_mk (st := s_Rule_first_from) Lr25 Cr25 Kr25
  have Fr26 := fun_mk (st := s_Rule_attempt_at) Lr26 Cr26 Kr26
  have Fa27 := fun_mk (st := s_offsets_beyond) La27 Ca27 Ka27
  have Fa28 := fun_mk (st := s_telling_offsets) La28 Ca28 Ka28
  have Fa29 := fun_mk (st := s_pairs_by_difference) La29 Ca29 Ka29
  have Fa30 := fun_mk (st := s_fewest_repeating) La30 Ca30 Ka30
  have Fa31 := fun_mk (st := s_first_repetition) La31 Ca31 Ka31
  have Fa32 := fun_mk (st := s_is_spread) La32 Ca32 Ka32
  have Fa33 := fun_mk (st := s_check_distance) La33 Ca33 Ka33
  have Fa34 := fun_mk (st := s_reaching_repeated) La34 Ca34 Ka34
  have Fa35 := fun_mk (st := s_reaching) La35 Ca35 Ka35
  have Fa36 := fun_mk (st := s_shared_attempts) La36 Ca36 Ka36
  have Fa37 := fun_mk (st := s_check_bound) La37 Ca37 Ka37
  have Fa38 := fun_mk (st := s_single_offsets) La38 Ca38 Ka38
  have Fa39 := fun_mk (st := s_least_by_residue) La39 Ca39 Ka39
  have Fa40 := fun_mk (st := s_count_repeating) La40 Ca40 Ka40
  have Fa41 := fun_mk (st := s_count_growing) La41 Ca41 Ka41
  have Fa42 := fun_mk (st := s_count_distances) La42 Ca42 Ka42
  have Fa43 := fun_mk (st := s_differences) La43 Ca43 Ka43
  have Fa44 := fun_mk (st := s_ways_back) La44 Ca44 Ka44
  have Fa45 := fun_mk (st := s_fits) La45 Ca45 Ka45
  have Fa46 := fun_mk (st := s_is_spread_list) La46 Ca46 Ka46
  have Fa47 := fun_mk (st := s_check_spread) La47 Ca47 Ka47
  have Fa48 := fun_mk (st := s_check_room) La48 Ca48 Ka48
  have Fa49 := fun_mk (st := s_next_gaps) La49 Ca49 Ka49
  have Fa50 := fun_mk (st := s_least_gap) La50 Ca50 Ka50
  have Fa51 := fun_mk (st := s_extended) La51 Ca51 Ka51
  have Fs52 := fun_mk (st := s_Search_ddinitdd) Ls52 Cs52 Ks52
  have Fs53 := fun_mk (st := s_Search_found) Ls53 Cs53 Ks53
  have Fs54 := fun_mk (st := s_Search_keep) Ls54 Cs54 Ks54
  have Fa55 := fun_mk (st := s_choices) La55 Ca55 Ka55
  have Fa56 := fun_mk (st := s_with_taken) La56 Ca56 Ka56
  have Fs57 := fun_mk (st := s_Search_extend_by) Ls57 Cs57 Ks57
  have Fa58 := fun_mk (st := s_spread_lists) La58 Ca58 Ka58
  have Fa59 := fun_mk (st := s_shortest) La59 Ca59 Ka59
  have ba1 := Fa1.binds (ps := ["value"]) fun _ _ _ _ _ _ us hl => match us, hl with | [_], _ => rfl
  have ga1 := PySem.W.mg_of X G Aa1
  have ba2 := Fa2.binds (ps := ["value", "most"]) fun _ _ _ _ _ _ us hl => match us, hl with | [_, _], _ => rfl
  have ga2 := PySem.W.mg_of X G Aa2
  have ba3 := Fa3.binds (ps := ["value", "many"]) fun _ _ _ _ _ _ us hl => match us, hl with | [_, _], _ => rfl
  have ga3 := PySem.W.mg_of X G Aa3
  have ba4 := Fa4.binds (ps := ["gaps"]) fun _ _ _ _ _ _ us hl => match us, hl with | [_], _ => rfl
  have ga4 := PySem.W.mg_of X G Aa4
  have ba5 := Fa5.binds (ps := ["base", "exponent"]) fun _ _ _ _ _ _ us hl => match us, hl with | [_, _], _ => rfl
  have ga5 := PySem.W.mg_of X G Aa5
  have ba6 := Fa6.binds (ps := ["_law_cell"]) fun _ _ _ _ _ _ us hl => match us, hl with | [_], _ => rfl
  have ga6 := PySem.W.mg_of X G Aa6
  have ba7 := Fa7.binds (ps := ["_law_source", "_law_many"]) fun _ _ _ _ _ _ us hl => match us, hl with | [_, _], _ => rfl
  have ga7 := PySem.W.mg_of X G Aa7
  have ba8 := Fa8.binds (ps := ["_law_source", "_law_options"]) fun _ _ _ _ _ _ us hl => match us, hl with | [_, _], _ => rfl
  have ga8 := PySem.W.mg_of X G Aa8
  have ba9 := Fa9.binds (ps := ["_law_script", "_law_k"]) fun _ _ _ _ _ _ us hl => match us, hl with | [_, _], _ => rfl
  have ga9 := PySem.W.mg_of X G Aa9
  have br10 := Fr10.binds (ps := ["self", "gaps", "tail"]) fun _ _ _ _ _ _ us hl => match us, hl with | [_, _, _], _ => rfl
  have er10 : Meth K C "__init__" fr10 := ⟨Ar10, Ir10, Kr10⟩
  have br12 := Fr12.binds (ps := ["self"]) fun _ _ _ _ _ _ us hl => match us, hl with | [_], _ => rfl
  have er12 : Meth K C "first_repeating" fr12 := ⟨Ar12, Ir12, Kr12⟩
  have br13 := Fr13.binds (ps := ["self"]) fun _ _ _ _ _ _ us hl => match us, hl with | [_], _ => rfl
  have er13 : Meth K C "period" fr13 := ⟨Ar13, Ir13, Kr13⟩
  have br14 := Fr14.binds (ps := ["self"]) fun _ _ _ _ _ _ us hl => match us, hl with | [_], _ => rfl
  have er14 : Meth K C "gaps" fr14 := ⟨Ar14, Ir14, Kr14⟩
  have br15 := Fr15.binds (ps := ["self"]) fun _ _ _ _ _ _ us hl => match us, hl with | [_], _ => rfl
  have er15 : Meth K C "tail" fr15 := ⟨Ar15, Ir15, Kr15⟩
  have br16 := Fr16.binds (ps := ["self", "attempt"]) fun _ _ _ _ _ _ us hl => match us, hl with | [_, _], _ => rfl
  have er16 : Meth K C "_check_attempt" fr16 := ⟨Ar16, Ir16, Kr16⟩
  have br17 := Fr17.binds (ps := ["self", "attempt"]) fun _ _ _ _ _ _ us hl => match us, hl with | [_, _], _ => rfl
  have er17 : Meth K C "_offset_of" fr17 := ⟨Ar17, Ir17, Kr17⟩
  have br18 := Fr18.binds (ps := ["self", "attempt"]) fun _ _ _ _ _ _ us hl => match us, hl with | [_, _], _ => rfl
  have er18 : Meth K C "offset" fr18 := ⟨Ar18, Ir18, Kr18⟩
  have ba20 := Fa20.binds (ps := ["rule"]) fun _ _ _ _ _ _ us hl => match us, hl with | [_], _ => rfl
  have ga20 := PySem.W.mg_of X G Aa20
  have ba21 := Fa21.binds (ps := ["offsets", "distance"]) fun _ _ _ _ _ _ us hl => match us, hl with | [_, _], _ => rfl
  have ga21 := PySem.W.mg_of X G Aa21
  have br22 := Fr22.binds (ps := ["self", "way"]) fun _ _ _ _ _ _ us hl => match us, hl with | [_, _], _ => rfl
  have er22 : Meth K C "_surely_short" fr22 := ⟨Ar22, Ir22, Kr22⟩
  have br23 := Fr23.binds (ps := ["self", "distance"]) fun _ _ _ _ _ _ us hl => match us, hl with | [_, _], _ => rfl
  have er23 : Meth K C "_first_growing" fr23 := ⟨Ar23, Ir23, Kr23⟩
  have br24 := Fr24.binds (ps := ["self", "distance"]) fun _ _ _ _ _ _ us hl => match us, hl with | [_, _], _ => rfl
  have er24 : Meth K C "_first_repeated" fr24 := ⟨Ar24, Ir24, Kr24⟩
  have br25 := Fr25.binds (ps := ["self", "distance"]) fun _ _ _ _ _ _ us hl => match us, hl with | [_, _], _ => rfl
  have er25 : Meth K C "first_from" fr25 := ⟨Ar25, Ir25, Kr25⟩
  have br26 := Fr26.binds (ps := ["self", "distance"]) fun _ _ _ _ _ _ us hl => match us, hl with | [_, _], _ => rfl
  have er26 : Meth K C "attempt_at" fr26 := ⟨Ar26, Ir26, Kr26⟩
  have ba27 := Fa27.binds (ps := ["rule", "reach"]) fun _ _ _ _ _ _ us hl => match us, hl with | [_, _], _ => rfl
  have ga27 := PySem.W.mg_of X G Aa27
  have ba28 := Fa28.binds (ps := ["rule"]) fun _ _ _ _ _ _ us hl => match us, hl with | [_], _ => rfl
  have ga28 := PySem.W.mg_of X G Aa28
  have ba29 := Fa29.binds (ps := ["offsets"]) fun _ _ _ _ _ _ us hl => match us, hl with | [_], _ => rfl
  have ga29 := PySem.W.mg_of X G Aa29
  have ba30 := Fa30.binds (ps := ["offsets"]) fun _ _ _ _ _ _ us hl => match us, hl with | [_], _ => rfl
  have ga30 := PySem.W.mg_of X G Aa30
  have ba31 := Fa31.binds (ps := ["rule"]) fun _ _ _ _ _ _ us hl => match us, hl with | [_], _ => rfl
  have ga31 := PySem.W.mg_of X G Aa31
  have ba32 := Fa32.binds (ps := ["rule"]) fun _ _ _ _ _ _ us hl => match us, hl with | [_], _ => rfl
  have ga32 := PySem.W.mg_of X G Aa32
  have ba33 := Fa33.binds (ps := ["distance"]) fun _ _ _ _ _ _ us hl => match us, hl with | [_], _ => rfl
  have ga33 := PySem.W.mg_of X G Aa33
  have ba34 := Fa34.binds (ps := ["rule", "distance", "later"]) fun _ _ _ _ _ _ us hl => match us, hl with | [_, _, _], _ => rfl
  have ga34 := PySem.W.mg_of X G Aa34
  have ba35 := Fa35.binds (ps := ["rule", "distance"]) fun _ _ _ _ _ _ us hl => match us, hl with | [_, _], _ => rfl
  have ga35 := PySem.W.mg_of X G Aa35
  have ba36 := Fa36.binds (ps := ["rule", "distance"]) fun _ _ _ _ _ _ us hl => match us, hl with | [_, _], _ => rfl
  have ga36 := PySem.W.mg_of X G Aa36
  have ba37 := Fa37.binds (ps := ["part", "value", "low", "high"]) fun _ _ _ _ _ _ us hl => match us, hl with | [_, _, _, _], _ => rfl
  have ga37 := PySem.W.mg_of X G Aa37
  have ba38 := Fa38.binds (ps := ["rule"]) fun _ _ _ _ _ _ us hl => match us, hl with | [_], _ => rfl
  have ga38 := PySem.W.mg_of X G Aa38
  have ba39 := Fa39.binds (ps := ["rule"]) fun _ _ _ _ _ _ us hl => match us, hl with | [_], _ => rfl
  have ga39 := PySem.W.mg_of X G Aa39
  have ba40 := Fa40.binds (ps := ["rule", "limit"]) fun _ _ _ _ _ _ us hl => match us, hl with | [_, _], _ => rfl
  have ga40 := PySem.W.mg_of X G Aa40
  have ba41 := Fa41.binds (ps := ["rule", "limit", "first"]) fun _ _ _ _ _ _ us hl => match us, hl with | [_, _, _], _ => rfl
  have ga41 := PySem.W.mg_of X G Aa41
  have ba42 := Fa42.binds (ps := ["rule", "limit"]) fun _ _ _ _ _ _ us hl => match us, hl with | [_, _], _ => rfl
  have ga42 := PySem.W.mg_of X G Aa42
  have ba43 := Fa43.binds (ps := ["gaps"]) fun _ _ _ _ _ _ us hl => match us, hl with | [_], _ => rfl
  have ga43 := PySem.W.mg_of X G Aa43
  have ba44 := Fa44.binds (ps := ["gaps"]) fun _ _ _ _ _ _ us hl => match us, hl with | [_], _ => rfl
  have ga44 := PySem.W.mg_of X G Aa44
  have ba45 := Fa45.binds (ps := ["gap", "ways", "taken"]) fun _ _ _ _ _ _ us hl => match us, hl with | [_, _, _], _ => rfl
  have ga45 := PySem.W.mg_of X G Aa45
  have ba46 := Fa46.binds (ps := ["gaps"]) fun _ _ _ _ _ _ us hl => match us, hl with | [_], _ => rfl
  have ga46 := PySem.W.mg_of X G Aa46
  have ba47 := Fa47.binds (ps := ["gaps"]) fun _ _ _ _ _ _ us hl => match us, hl with | [_], _ => rfl
  have ga47 := PySem.W.mg_of X G Aa47
  have ba48 := Fa48.binds (ps := ["gaps", "many"]) fun _ _ _ _ _ _ us hl => match us, hl with | [_, _], _ => rfl
  have ga48 := PySem.W.mg_of X G Aa48
  have ba49 := Fa49.binds (ps := ["gaps", "most"]) fun _ _ _ _ _ _ us hl => match us, hl with | [_, _], _ => rfl
  have ga49 := PySem.W.mg_of X G Aa49
  have ba50 := Fa50.binds (ps := ["gaps"]) fun _ _ _ _ _ _ us hl => match us, hl with | [_], _ => rfl
  have ga50 := PySem.W.mg_of X G Aa50
  have ba51 := Fa51.binds (ps := ["gaps", "count"]) fun _ _ _ _ _ _ us hl => match us, hl with | [_, _], _ => rfl
  have ga51 := PySem.W.mg_of X G Aa51
  have bs52 := Fs52.binds (ps := ["self", "many"]) fun _ _ _ _ _ _ us hl => match us, hl with | [_, _], _ => rfl
  have es52 : Meth K CSe "__init__" fs52 := ⟨As52, Is52, Ks52⟩
  have bs53 := Fs53.binds (ps := ["self"]) fun _ _ _ _ _ _ us hl => match us, hl with | [_], _ => rfl
  have es53 : Meth K CSe "found" fs53 := ⟨As53, Is53, Ks53⟩
  have bs54 := Fs54.binds (ps := ["self", "gaps"]) fun _ _ _ _ _ _ us hl => match us, hl with | [_, _], _ => rfl
  have es54 : Meth K CSe "_keep" fs54 := ⟨As54, Is54, Ks54⟩
  have ba55 := Fa55.binds (ps := ["many", "total"]) fun _ _ _ _ _ _ us hl => match us, hl with | [_, _], _ => rfl
  have ga55 := PySem.W.mg_of X G Aa55
  have ba56 := Fa56.binds (ps := ["taken", "further"]) fun _ _ _ _ _ _ us hl => match us, hl with | [_, _], _ => rfl
  have ga56 := PySem.W.mg_of X G Aa56
  have bs57 := Fs57.binds (ps := ["self", "gaps", "ways", "taken", "total"]) fun _ _ _ _ _ _ us hl => match us, hl with | [_, _, _, _, _], _ => rfl
  have es57 : Meth K CSe "extend_by" fs57 := ⟨As57, Is57, Ks57⟩
  have ba58 := Fa58.binds (ps := ["count", "total"]) fun _ _ _ _ _ _ us hl => match us, hl with | [_, _], _ => rfl
  have ga58 := PySem.W.mg_of X G Aa58
  have ba59 := Fa59.binds (ps := ["count"]) fun _ _ _ _ _ _ us hl => match us, hl with | [_], _ => rfl
  have ga59 := PySem.W.mg_of X G Aa59

  refine ⟨PySem.W.fnOf "law" "law" (defArgs s_law) (defBody s_law) (defScope s_law) .none kVa0 dca0 pma0 ana0 cda0 cta0, fun s v => .of_eq rfl, fun base _ _ => ?_⟩
  have G0 := ok_isInt (mg := mg) (P := l.prog) (w := w) (base := base) Fa1 T
  have G2 := ok_areGaps (mg := mg) (P := l.prog) (w := w) (base := base) Fa2 T Fa1 ba1 ga1
  have G6 := ok_sums (mg := mg) (P := l.prog) (w := w) (base := base) Fa4
  have G10 := ok_srcOf (mg := mg) (P := l.prog) (w := w) (base := base) Fa6 T
  have G12 := ok_next (mg := mg) (P := l.prog) (w := w) (base := base) Fa7 T
  have G14 := ok_one (mg := mg) (P := l.prog) (w := w) (base := base) Fa8 T Fa7 ba7 ga7
  have G16 := ok_cell (mg := mg) (P := l.prog) (w := w) (base := base) Fa9 T
  have G18 := ok_init (mg := mg) (P := l.prog) (w := w) (base := base) Fr10 T Fa1 ba1 ga1 Fa2 ba2 ga2 Fa3 ba3 ga3 Fa4 ba4 ga4
  have G22 := ok_frA (mg := mg) (P := l.prog) (w := w) (base := base) Fr12 T
  have G26 := ok_per (mg := mg) (P := l.prog) (w := w) (base := base) Fr13 T Fr12 br12 er12
  have G28 := ok_gaps (mg := mg) (P := l.prog) (w := w) (base := base) Fr14 T
  have G30 := ok_tail (mg := mg) (P := l.prog) (w := w) (base := base) Fr15 T
  have G32 := ok_check (mg := mg) (P := l.prog) (w := w) (base := base) Fr16 T Fa1 ba1 ga1
  have G34 := ok_off (mg := mg) (P := l.prog) (w := w) (base := base) Fr17 T Fr12 br12 er12 Fr13 br13 er13 Fa5 ba5 ga5
  have G36 := ok_offset (mg := mg) (P := l.prog) (w := w) (base := base) Fr18 T er16 br16 er17 br17 G32 G34
  have G40 := ok_lo (mg := mg) (P := l.prog) (w := w) (base := base) Fa20 T G6 ba4 ga4 Ka4 G28 br14 er14
  have G46 := ok_fg (mg := mg) (P := l.prog) (w := w) (base := base) Fr23 T Fr22 br22 er22 G34 br17 er17 Fa5 ba5 ga5
  have G48 := ok_frp (mg := mg) (P := l.prog) (w := w) (base := base) Fr24 T Fr12 br12 er12 Fr13 br13 er13 Fa21 ba21 ga21
  have G50 := ok_ff (mg := mg) (P := l.prog) (w := w) (base := base) Fr25 T Fa1 ba1 ga1 Fa21 ba21 ga21 G46 br23 er23 G48 br24 er24
  have G52 := ok_aa (mg := mg) (P := l.prog) (w := w) (base := base) Fr26 T G50 br25 er25 G34 br17 er17
  have G54 := ok_ob (mg := mg) (P := l.prog) (w := w) (base := base) Fa27 T G40 ba20 ga20 Ka20 G30 br15 er15 G28 br14 er14
  have G56 := ok_to2 (mg := mg) (P := l.prog) (w := w) (base := base) Fa28 T G40 ba20 ga20 Ka20 G22 br12 er12 G36 br18 er18 G30 br15 er15 G54 ba27 ga27 Ka27
  have G58 := ok_pd (mg := mg) (P := l.prog) (w := w) (base := base) Fa29 T
  have G60 := ok_fw (mg := mg) (P := l.prog) (w := w) (base := base) Fa30 T
  have G62 := ok_fp (mg := mg) (P := l.prog) (w := w) (base := base) Fa31 T G56 ba28 ga28 Ka28 G60 ba30 ga30 Ka30 G58 ba29 ga29 Ka29
  have G64 := ok_sd2 (mg := mg) (P := l.prog) (w := w) (base := base) Fa32 T G62 ba31 ga31 Ka31
  have G66 := ok_ckD (mg := mg) (P := l.prog) (w := w) (base := base) Fa33 T G0 ba1 ga1 Ka1
  have G68 := ok_rr (mg := mg) (P := l.prog) (w := w) (base := base) Fa34 T G50 br25 er25 G36 br18 er18
  have G70 := ok_rg (mg := mg) (P := l.prog) (w := w) (base := base) Fa35 T G22 br12 er12 G54 ba27 ga27 Ka27 G28 br14 er14 G68 ba34 ga34 Ka34
  have G72 := ok_sg (mg := mg) (P := l.prog) (w := w) (base := base) Fa36 T G66 ba33 ga33 Ka33 G70 ba35 ga35 Ka35 G22 br12 er12
  have G74 := ok_cb (mg := mg) (P := l.prog) (w := w) (base := base) Fa37 T G0 ba1 ga1 Ka1
  have G76 := ok_so (mg := mg) (P := l.prog) (w := w) (base := base) Fa38 T G40 ba20 ga20 Ka20 G22 br12 er12
  have G78 := ok_lb (mg := mg) (P := l.prog) (w := w) (base := base) Fa39 T G40 ba20 ga20 Ka20 G22 br12 er12 G36 br18 er18 G26 br13 er13
  have G80 := ok_cr (mg := mg) (P := l.prog) (w := w) (base := base) Fa40 T G26 br13 er13 G78 ba39 ga39 Ka39 G58 ba29 ga29 Ka29 G76 ba38 ga38 Ka38
  have G82 := ok_cg (mg := mg) (P := l.prog) (w := w) (base := base) Fa41 T G54 ba27 ga27 Ka27 G52 br26 er26
  have G84 := ok_cd (mg := mg) (P := l.prog) (w := w) (base := base) Fa42 T G74 ba37 ga37 Ka37 G22 br12 er12 G80 ba40 ga40 Ka40 G56 ba28 ga28 Ka28 G58 ba29 ga29 Ka29 G30 br15 er15 G82 ba41 ga41 Ka41
  have G86 := ok_df (mg := mg) (P := l.prog) (w := w) (base := base) Fa43 (PySem.W.mg_of X G zcmb) G6 ba4 ga4 Ka4
  have G88 := ok_wb (mg := mg) (P := l.prog) (w := w) (base := base) Fa44 G6 ba4 ga4 Ka4
  have G90 := ok_ft (mg := mg) (P := l.prog) (w := w) (base := base) Fa45 T
  have G92 := ok_il (mg := mg) (P := l.prog) (w := w) (base := base) Fa46 T ⟨tMG, PySem.W.mg_of X G c_tMG⟩ G2 ba2 ga2 Ka2 G86 ba43 ga43 Ka43
  have G94 := ok_cs (mg := mg) (P := l.prog) (w := w) (base := base) Fa47 G92 ba46 ga46 Ka46
  have G96 := ok_rm (mg := mg) (P := l.prog) (w := w) (base := base) Fa48 T ⟨tMG, PySem.W.mg_of X G c_tMG⟩
  have G98 := ok_cbH (mg := mg) (P := l.prog) (w := w) (base := base) Fa37 T G0 ba1 ga1 Ka1
  have G100 := ok_ng (mg := mg) (P := l.prog) (w := w) (base := base) Fa49 T ⟨tWG, PySem.W.mg_of X G c_tWG⟩ G94 ba47 ga47 Ka47 G96 ba48 ga48 Ka48 G98 ba37 ga37 Ka37 G88 ba44 ga44 Ka44 G86 ba43 ga43 Ka43 G90 ba45 ga45 Ka45
  have G102 := ok_lg (mg := mg) (P := l.prog) (w := w) (base := base) Fa50 T G88 ba44 ga44 Ka44 G86 ba43 ga43 Ka43 G90 ba45 ga45 Ka45
  have G104 := ok_ex (mg := mg) (P := l.prog) (w := w) (base := base) Fa51 T ⟨tMG, PySem.W.mg_of X G c_tMG⟩ G94 ba47 ga47 Ka47 G96 ba48 ga48 Ka48 G98 ba37 ga37 Ka37 G102 ba50 ga50 Ka50
  have G106 := ok_si (mg := mg) (P := l.prog) (w := w) (base := base) Fs52 TF
  have G108 := ok_fo (mg := mg) (P := l.prog) (w := w) (base := base) Fs53 TF
  have G110 := ok_kp (mg := mg) (P := l.prog) (w := w) (base := base) Fs54 T TF ⟨tML, PySem.W.mg_of X G c_tML⟩
  have G112 := ok_ch (mg := mg) (P := l.prog) (w := w) (base := base) Fa55 T
  have G114 := ok_wt (mg := mg) (P := l.prog) (w := w) (base := base) Fa56 (PySem.W.mg_none_of X G z_dict)
  have G116 := ok_eb (mg := mg) (P := l.prog) (w := w) (base := base) Fs57 T TF G110 bs54 es54 G112 ba55 ga55 Ka55 G90 ba45 ga45 Ka45 G114 ba56 ga56 Ka56 bs57 es57
  have G118 := ok_sl (mg := mg) (P := l.prog) (w := w) (base := base) Fa58 T TF M_se ⟨tMA, PySem.W.mg_of X G c_tMA⟩ ⟨tGT, PySem.W.mg_of X G c_tGT⟩ G98 ba37 ga37 Ka37 G106 bs52 G116 bs57 es57 G108 bs53 es53
  have G120 := ok_st (mg := mg) (P := l.prog) (w := w) (base := base) Fa59 T ⟨tMA, PySem.W.mg_of X G c_tMA⟩ G98 ba37 ga37 Ka37 G118 ba58 ga58 Ka58
  exact ok_law (P := l.prog) (w := w) (base := base) Fa0 T M G18 br10 G16 ba9 ga9 Ka9 G10 ba6 ga6 Ka6 G12 ba7 ga7 Ka7 G14 ba8 ga8 Ka8 G104 ba51 ga51 Ka51 G120 ba59 ga59 Ka59 G92 ba46 ga46 Ka46 G64 ba32 ga32 Ka32 G84 ba42 ga42 Ka42 G72 ba36 ga36 Ka36 G100 ba49 ga49 Ka49
/-- the end of the walk, with what the top left loose -/
theorem walk_x {l : PySem.W.OpenLaw} {q : Program} {loose : List Str} {XP : (Str → Option Value) → Heap → Prop} {YP : World → Heap → Prop} {d : DefRec} {K : Params → PySem.W.Frag} (hn : l.most = some 63) (hdf : d.params.defaults = [])
    (hY : ∀ (w : World) (h : Heap), YP w h → (K w.params).In h)
    (F : ∀ (w : World) (mg : Str → Option Value) (fa : Addr) (h : Heap), (K w.params).In h → h.Ns mainGlobals mg → mg d.name = some (.ref fa) → XP mg h →
      ∃ fd : FuncData, (∀ (s : Shared) (u : Value), BindsTo s fd ⟨[u], []⟩ [("_law_script", u)]) ∧ ∀ base : Heap, (K w.params).In base → base.Ns mainGlobals mg → FnOk l.prog w (K w.params) mg base CX0 11 fa fd ["_law_script"] (spLaw (K w.params))) :
    PySem.W.WalkO q loose XP YP l.row.toRowW d [] (fun f vs => PySem.call f vs) := by
  refine Att.attach_call hn hdf ?_
  intro w _ s1 mg _ fa _ _ _ _ a vs ns G Y _ _ _ hmg hobj hints hlen hg
  obtain ⟨fd, hb, hF⟩ := F w mg fa _ (hY w _ Y) G.T.g hmg G.X
  refine law_call (hY w _ Y) G.T.g G.T.b G.T.builtins G.T.nolimit hg hobj hints ?_ ?_ hF hb ?_ ?_
  · exact Nat.le_trans hlen (by decide)
  · exact ⟨rfl, by decide, by decide⟩
  · exact fun H _ hS => ⟨a, ns, rfl, hS, hlen, fun _ => rfl⟩
  · exact fun H e s' z => z
theorem long_of {p : Program} {mg : Str → Option Value} {h : Heap} (x : PySem.W.XL p [("_LONGEST_GAP", .int 1000000000000)] mg h) : ∃ t, mg "_LONGEST_GAP" = some (.int 1000000000000 t) := by
  obtain ⟨v, e, r⟩ := x.2.val _ (List.mem_singleton.mpr rfl)
  cases r
  exact ⟨_, e⟩
end RS
open PySem PySem.W PyProof.Rows
set_option maxRecDepth 100000 in
set_option maxHeartbeats 0 in
theorem PySem.Challenge.cw_retryslots_k82_whole_short_lists_as_rule_holds : PySem.Challenge.rw_retryslots_k82_whole_short_lists_as_rule.Holds := by
  w_on; o_law; k_head; (case hw => w_witness2)
  k_fill
  refine RS.walk_x (l := PySem.Challenge.rw_retryslots_k82_whole_short_lists_as_rule) rfl rfl (fun w h Y => PySem.W.kIn_of Y) ?F
  case F =>
    intro w mg fa h KX G hmg XX
    refine' RS.all_mk KX G hmg (RS.long_of XX) ?Aa0 ?La0 ?Ca0 ?Ka0 ?Aa1 ?La1 ?Ca1 ?Ka1 ?Aa2 ?La2 ?Ca2 ?Ka2 ?Aa3 ?La3 ?Ca3 ?Ka3 ?Aa4 ?La4 ?Ca4 ?Ka4 ?Aa5 ?La5 ?Ca5 ?Ka5 ?Aa6 ?La6 ?Ca6 ?Ka6 ?Aa7 ?La7 ?Ca7 ?Ka7 ?Aa8 ?La8 ?Ca8 ?Ka8 ?Aa9 ?La9 ?Ca9 ?Ka9 ?Ar10 ?Ir10 ?Lr10 ?Cr10 ?Kr10 ?Ar12 ?Ir12 ?Lr12 ?Cr12 ?Kr12 ?Ar13 ?Ir13 ?Lr13 ?Cr13 ?Kr13 ?Ar14 ?Ir14 ?Lr14 ?Cr14 ?Kr14 ?Ar15 ?Ir15 ?Lr15 ?Cr15 ?Kr15 ?Ar16 ?Ir16 ?Lr16 ?Cr16 ?Kr16 ?Ar17 ?Ir17 ?Lr17 ?Cr17 ?Kr17 ?Ar18 ?Ir18 ?Lr18 ?Cr18 ?Kr18 ?Aa20 ?La20 ?Ca20 ?Ka20 ?Aa21 ?La21 ?Ca21 ?Ka21 ?Ar22 ?Ir22 ?Lr22 ?Cr22 ?Kr22 ?Ar23 ?Ir23 ?Lr23 ?Cr23 ?Kr23 ?Ar24 ?Ir24 ?Lr24 ?Cr24 ?Kr24 ?Ar25 ?Ir25 ?Lr25 ?Cr25 ?Kr25 ?Ar26 ?Ir26 ?Lr26 ?Cr26 ?Kr26 ?Aa27 ?La27 ?Ca27 ?Ka27 ?Aa28 ?La28 ?Ca28 ?Ka28 ?Aa29 ?La29 ?Ca29 ?Ka29 ?Aa30 ?La30 ?Ca30 ?Ka30 ?Aa31 ?La31 ?Ca31 ?Ka31 ?Aa32 ?La32 ?Ca32 ?Ka32 ?Aa33 ?La33 ?Ca33 ?Ka33 ?Aa34 ?La34 ?Ca34 ?Ka34 ?Aa35 ?La35 ?Ca35 ?Ka35 ?Aa36 ?La36 ?Ca36 ?Ka36 ?Aa37 ?La37 ?Ca37 ?Ka37 ?Aa38 ?La38 ?Ca38 ?Ka38 ?Aa39 ?La39 ?Ca39 ?Ka39 ?Aa40 ?La40 ?Ca40 ?Ka40 ?Aa41 ?La41 ?Ca41 ?Ka41 ?Aa42 ?La42 ?Ca42 ?Ka42 ?Aa43 ?La43 ?Ca43 ?Ka43 ?Aa44 ?La44 ?Ca44 ?Ka44 ?Aa45 ?La45 ?Ca45 ?Ka45 ?Aa46 ?La46 ?Ca46 ?Ka46 ?Aa47 ?La47 ?Ca47 ?Ka47 ?Aa48 ?La48 ?Ca48 ?Ka48 ?Aa49 ?La49 ?Ca49 ?Ka49 ?Aa50 ?La50 ?Ca50 ?Ka50 ?Aa51 ?La51 ?Ca51 ?Ka51 ?As52 ?Is52 ?Ls52 ?Cs52 ?Ks52 ?As53 ?Is53 ?Ls53 ?Cs53 ?Ks53 ?As54 ?Is54 ?Ls54 ?Cs54 ?Ks54 ?Aa55 ?La55 ?Ca55 ?Ka55 ?Aa56 ?La56 ?Ca56 ?Ka56 ?As57 ?Is57 ?Ls57 ?Cs57 ?Ks57 ?Aa58 ?La58 ?Ca58 ?Ka58 ?Aa59 ?La59 ?Ca59 ?Ka59 ?aC ?pg ?hd ?po ?sa ?mk ?kc ?n0 ?n1 ?n2 ?aC_se ?pg_se ?hd_se ?po_se ?sa_se ?mk_se ?kc_se ?n0_se ?n1_se ?z_len ?z_isinstance ?z_int ?z_bool ?z_list ?z_tuple ?z_str ?z_all ?z_range ?z_divmod ?z_sum ?z_max ?z_min ?z_sorted ?z_set ?z_any ?z_enumerate ?z_dict ?zcmb ?c_tM ?c_tF ?c_tL ?c_tMG ?c_tWG ?c_tMA ?c_tGT ?c_tML
    (case aC => k_is)
    (case aC_se => k_is)
    (case Aa0 => k_is)
    (case La0 => k_is)
    (case Ca0 => k_is)
    (case Ka0 => k_is)
    (case Aa1 => k_is)
    (case La1 => k_is)
    (case Ca1 => k_is)
    (case Ka1 => k_is)
    (case Aa2 => k_is)
    (case La2 => k_is)
    (case Ca2 => k_is)
    (case Ka2 => k_is)
    (case Aa3 => k_is)
    (case La3 => k_is)
    (case Ca3 => k_is)
    (case Ka3 => k_is)
    (case Aa4 => k_is)
    (case La4 => k_is)
    (case Ca4 => k_is)
    (case Ka4 => k_is)
    (case Aa5 => k_is)
    (case La5 => k_is)
    (case Ca5 => k_is)
    (case Ka5 => k_is)
    (case Aa6 => k_is)
    (case La6 => k_is)
    (case Ca6 => k_is)
    (case Ka6 => k_is)
    (case Aa7 => k_is)
    (case La7 => k_is)
    (case Ca7 => k_is)
    (case Ka7 => k_is)
    (case Aa8 => k_is)
    (case La8 => k_is)
    (case Ca8 => k_is)
    (case Ka8 => k_is)
    (case Aa9 => k_is)
    (case La9 => k_is)
    (case Ca9 => k_is)
    (case Ka9 => k_is)
    (case Ar10 => k_is)
    (case Ir10 => k_is)
    (case Lr10 => k_is)
    (case Cr10 => k_is)
    (case Kr10 => k_is)
    (case Ar12 => k_is)
    (case Ir12 => k_is)
    (case Lr12 => k_is)
    (case Cr12 => k_is)
    (case Kr12 => k_is)
    (case Ar13 => k_is)
    (case Ir13 => k_is)
    (case Lr13 => k_is)
    (case Cr13 => k_is)
    (case Kr13 => k_is)
    (case Ar14 => k_is)
    (case Ir14 => k_is)
    (case Lr14 => k_is)
    (case Cr14 => k_is)
    (case Kr14 => k_is)
    (case Ar15 => k_is)
    (case Ir15 => k_is)
    (case Lr15 => k_is)
    (case Cr15 => k_is)
    (case Kr15 => k_is)
    (case Ar16 => k_is)
    (case Ir16 => k_is)
    (case Lr16 => k_is)
    (case Cr16 => k_is)
    (case Kr16 => k_is)
    (case Ar17 => k_is)
    (case Ir17 => k_is)
    (case Lr17 => k_is)
    (case Cr17 => k_is)
    (case Kr17 => k_is)
    (case Ar18 => k_is)
    (case Ir18 => k_is)
    (case Lr18 => k_is)
    (case Cr18 => k_is)
    (case Kr18 => k_is)
    (case Aa20 => k_is)
    (case La20 => k_is)
    (case Ca20 => k_is)
    (case Ka20 => k_is)
    (case Aa21 => k_is)
    (case La21 => k_is)
    (case Ca21 => k_is)
    (case Ka21 => k_is)
    (case Ar22 => k_is)
    (case Ir22 => k_is)
    (case Lr22 => k_is)
    (case Cr22 => k_is)
    (case Kr22 => k_is)
    (case Ar23 => k_is)
    (case Ir23 => k_is)
    (case Lr23 => k_is)
    (case Cr23 => k_is)
    (case Kr23 => k_is)
    (case Ar24 => k_is)
    (case Ir24 => k_is)
    (case Lr24 => k_is)
    (case Cr24 => k_is)
    (case Kr24 => k_is)
    (case Ar25 => k_is)
    (case Ir25 => k_is)
    (case Lr25 => k_is)
    (case Cr25 => k_is)
    (case Kr25 => k_is)
    (case Ar26 => k_is)
    (case Ir26 => k_is)
    (case Lr26 => k_is)
    (case Cr26 => k_is)
    (case Kr26 => k_is)
    (case Aa27 => k_is)
    (case La27 => k_is)
    (case Ca27 => k_is)
    (case Ka27 => k_is)
    (case Aa28 => k_is)
    (case La28 => k_is)
    (case Ca28 => k_is)
    (case Ka28 => k_is)
    (case Aa29 => k_is)
    (case La29 => k_is)
    (case Ca29 => k_is)
    (case Ka29 => k_is)
    (case Aa30 => k_is)
    (case La30 => k_is)
    (case Ca30 => k_is)
    (case Ka30 => k_is)
    (case Aa31 => k_is)
    (case La31 => k_is)
    (case Ca31 => k_is)
    (case Ka31 => k_is)
    (case Aa32 => k_is)
    (case La32 => k_is)
    (case Ca32 => k_is)
    (case Ka32 => k_is)
    (case Aa33 => k_is)
    (case La33 => k_is)
    (case Ca33 => k_is)
    (case Ka33 => k_is)
    (case Aa34 => k_is)
    (case La34 => k_is)
    (case Ca34 => k_is)
    (case Ka34 => k_is)
    (case Aa35 => k_is)
    (case La35 => k_is)
    (case Ca35 => k_is)
    (case Ka35 => k_is)
    (case Aa36 => k_is)
    (case La36 => k_is)
    (case Ca36 => k_is)
    (case Ka36 => k_is)
    (case Aa37 => k_is)
    (case La37 => k_is)
    (case Ca37 => k_is)
    (case Ka37 => k_is)
    (case Aa38 => k_is)
    (case La38 => k_is)
    (case Ca38 => k_is)
    (case Ka38 => k_is)
    (case Aa39 => k_is)
    (case La39 => k_is)
    (case Ca39 => k_is)
    (case Ka39 => k_is)
    (case Aa40 => k_is)
    (case La40 => k_is)
    (case Ca40 => k_is)
    (case Ka40 => k_is)
    (case Aa41 => k_is)
    (case La41 => k_is)
    (case Ca41 => k_is)
    (case Ka41 => k_is)
    (case Aa42 => k_is)
    (case La42 => k_is)
    (case Ca42 => k_is)
    (case Ka42 => k_is)
    (case Aa43 => k_is)
    (case La43 => k_is)
    (case Ca43 => k_is)
    (case Ka43 => k_is)
    (case Aa44 => k_is)
    (case La44 => k_is)
    (case Ca44 => k_is)
    (case Ka44 => k_is)
    (case Aa45 => k_is)
    (case La45 => k_is)
    (case Ca45 => k_is)
    (case Ka45 => k_is)
    (case Aa46 => k_is)
    (case La46 => k_is)
    (case Ca46 => k_is)
    (case Ka46 => k_is)
    (case Aa47 => k_is)
    (case La47 => k_is)
    (case Ca47 => k_is)
    (case Ka47 => k_is)
    (case Aa48 => k_is)
    (case La48 => k_is)
    (case Ca48 => k_is)
    (case Ka48 => k_is)
    (case Aa49 => k_is)
    (case La49 => k_is)
    (case Ca49 => k_is)
    (case Ka49 => k_is)
    (case Aa50 => k_is)
    (case La50 => k_is)
    (case Ca50 => k_is)
    (case Ka50 => k_is)
    (case Aa51 => k_is)
    (case La51 => k_is)
    (case Ca51 => k_is)
    (case Ka51 => k_is)
    (case As52 => k_is)
    (case Is52 => k_is)
    (case Ls52 => k_is)
    (case Cs52 => k_is)
    (case Ks52 => k_is)
    (case As53 => k_is)
    (case Is53 => k_is)
    (case Ls53 => k_is)
    (case Cs53 => k_is)
    (case Ks53 => k_is)
    (case As54 => k_is)
    (case Is54 => k_is)
    (case Ls54 => k_is)
    (case Cs54 => k_is)
    (case Ks54 => k_is)
    (case Aa55 => k_is)
    (case La55 => k_is)
    (case Ca55 => k_is)
    (case Ka55 => k_is)
    (case Aa56 => k_is)
    (case La56 => k_is)
    (case Ca56 => k_is)
    (case Ka56 => k_is)
    (case As57 => k_is)
    (case Is57 => k_is)
    (case Ls57 => k_is)
    (case Cs57 => k_is)
    (case Ks57 => k_is)
    (case Aa58 => k_is)
    (case La58 => k_is)
    (case Ca58 => k_is)
    (case Ka58 => k_is)
    (case Aa59 => k_is)
    (case La59 => k_is)
    (case Ca59 => k_is)
    (case Ka59 => k_is)
    (case pg => k_is)
    (case hd => k_is)
    (case po => k_is)
    (case sa => k_is)
    (case mk => k_is)
    (case kc => k_is)
    (case n0 => k_is)
    (case n1 => k_is)
    (case n2 => k_is)
    (case pg_se => k_is)
    (case hd_se => k_is)
    (case po_se => k_is)
    (case sa_se => k_is)
    (case mk_se => k_is)
    (case kc_se => k_is)
    (case n0_se => k_is)
    (case n1_se => k_is)
    (case z_len => k_is)
    (case z_isinstance => k_is)
    (case z_int => k_is)
    (case z_bool => k_is)
    (case z_list => k_is)
    (case z_tuple => k_is)
    (case z_str => k_is)
    (case z_all => k_is)
    (case z_range => k_is)
    (case z_divmod => k_is)
    (case z_sum => k_is)
    (case z_max => k_is)
    (case z_min => k_is)
    (case z_sorted => k_is)
    (case z_set => k_is)
    (case z_any => k_is)
    (case z_enumerate => k_is)
    (case z_dict => k_is)
    (case zcmb => k_is)
    (case c_tM => k_is)
    (case c_tF => k_is)
    (case c_tL => k_is)
    (case c_tMG => k_is)
    (case c_tWG => k_is)
    (case c_tMA => k_is)
    (case c_tGT => k_is)
    (case c_tML => k_is)

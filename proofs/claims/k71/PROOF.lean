import PyProof.Rows.All
import Wide.All
import OpenK.AllK
import Wide.FinOn
import HandS.ForMost
import HandS.Evl
import HandS.Wide
import HandS.WideBits
import HandS.IsInst
import KE.KEqDeep
import KE.KMinKey
import HandS.Codes
import HandS.OwnEq
import PyProof.InstNe
import HandS.MakeKwOnly
import HandS.SortKw
import HandS.Defaults
import HandS.Exc
import HandS.TryOnly
import HandS.TryMany
import HandS.ExcOwn
import HandS.WordsExc
import HandS.More
import HandS.Lambda
import KE.KExcIs
import HandS.HotCalls
import HandS.ExcInit
import KE.KExcInit
import HandS.Walk
import HandS.Flow
import HandS.Style
import HandS.Iter
import PyProof.ReprRoads
import HandS.EndTab
import KE.DataFind
import HandS.SetFor
import HandS.Strs
import HandS.SortInts
import HandS.Conv
import HandS.SetKeys
import KE.DataMinMax
import KE.SortData
import PySem.Challenge.RW_retryslots_k71_whole_services_far_away
set_option Elab.async false
set_option maxRecDepth 100000
set_option maxHeartbeats 2000000
namespace RS
open PySem L2
def top (i : Nat) : Stmt := PySem.Challenge.pw_retryslots_k71_whole_services_far_away.main.body.getD i (.Pass ⟨0, 0, 0, 0⟩)
abbrev s_wall : Stmt := top 0
abbrev s_InvalidRule_ddinitdd : Stmt := inClass (top 3) 0
abbrev s_InvalidAttempt_ddinitdd : Stmt := inClass (top 4) 0
abbrev s_InvalidSlot_ddinitdd : Stmt := inClass (top 5) 0
abbrev s_InvalidScene_ddinitdd : Stmt := inClass (top 6) 0
abbrev s_InvalidBound_ddinitdd : Stmt := inClass (top 7) 0
abbrev s_LimitExceeded_ddinitdd : Stmt := inClass (top 8) 0
abbrev s_is_integer : Stmt := top 10
abbrev s_check_slot : Stmt := top 14
abbrev s_check_bound : Stmt := top 15
abbrev s_check_starts : Stmt := top 16
abbrev s_are_gaps : Stmt := top 17
abbrev s_sums : Stmt := top 19
abbrev s_listed_offsets : Stmt := top 20
abbrev s_repeating_offsets : Stmt := top 21
abbrev s_Loop_ddinitdd : Stmt := inClass (top 23) 0
abbrev s_Loop_begins : Stmt := inClass (top 23) 1
abbrev s_Loop_enter : Stmt := inClass (top 23) 2
abbrev s_Loop_leave : Stmt := inClass (top 23) 3
abbrev s_Loop_clients_in : Stmt := inClass (top 23) 4
abbrev s_Loop_lone_from : Stmt := inClass (top 23) 5
abbrev s_blocked_clients : Stmt := top 25
abbrev s_service_order : Stmt := top 26
abbrev s_check_repeating : Stmt := top 27
abbrev s_check_clients : Stmt := top 28
abbrev s_check_repeated : Stmt := top 29
abbrev s_residues : Stmt := top 30
abbrev s_residue_table : Stmt := top 31
abbrev s_greatest_closed : Stmt := top 32
abbrev s_partners : Stmt := top 33
abbrev s_filled_loop : Stmt := top 34
abbrev s_Rule_ddinitdd : Stmt := inClass (top 39) 0
abbrev s_Rule_ddeqdd : Stmt := inClass (top 39) 1
abbrev s_Rule_gaps : Stmt := inClass (top 39) 2
abbrev s_Rule_tail : Stmt := inClass (top 39) 3
abbrev s_Rule_attempts : Stmt := inClass (top 39) 4
abbrev s_Rule_gap : Stmt := inClass (top 39) 5
abbrev s_Rule_offset : Stmt := inClass (top 39) 6
abbrev s_Rule_first_from : Stmt := inClass (top 39) 7
abbrev s_Rule_attempt_at : Stmt := inClass (top 39) 8
abbrev s_Rule_period : Stmt := inClass (top 39) 9
abbrev s_Rule_least_gap : Stmt := inClass (top 39) 10
abbrev s_Rule_first_repeating : Stmt := inClass (top 39) 11
abbrev s_Rule_offsets_between : Stmt := inClass (top 39) 12
abbrev s_Rule_check_attempt : Stmt := inClass (top 39) 13
abbrev s_Rule_offset_of : Stmt := inClass (top 39) 14
abbrev s_Rule_first_growing : Stmt := inClass (top 39) 15
abbrev s_Rule_surely_short : Stmt := inClass (top 39) 16
abbrev s_Rule_first_repeated : Stmt := inClass (top 39) 17
abbrev s_is_tail : Stmt := top 40
abbrev s_power : Stmt := top 41
abbrev s_law_cell_at : Stmt := top 43
abbrev s_law_source_of : Stmt := top 44
abbrev s_law_draw : Stmt := top 45
abbrev s_law_choice : Stmt := top 46
abbrev s_law_repeating : Stmt := top 47
abbrev s_law_residues : Stmt := top 48
abbrev s_law_starts : Stmt := top 49
abbrev s_law_first : Stmt := top 50
abbrev s_law_order_right : Stmt := top 51
abbrev s_law : Stmt := top 52
/-! ### what the walk asks of the text's top -/
structure Txt (K : PySem.W.Frag) (mg : Str → Option Value) (C : Addr) : Prop where
  cl : Cls K C
  nG : NoAttr K C "_gaps"
  nT : NoAttr K C "_tail"
  nO : NoAttr K C "_offsets"
  mgC : mg "Rule" = some (.ref C)
  len : mg "len" = none
  isi : mg "isinstance" = none
  int : mg "int" = none
  bool : mg "bool" = none
  list : mg "list" = none
  tuple : mg "tuple" = none
  str : mg "str" = none
  all : mg "all" = none
  range : mg "range" = none
  divmod : mg "divmod" = none
  sum : mg "sum" = none
  max : mg "max" = none
  min : mg "min" = none
  sorted : mg "sorted" = none
  set : mg "set" = none
  any : mg "any" = none
  enum : mg "enumerate" = none
  mMost : ∃ t, mg "_MOST_GAPS" = some (.int 20 t)
  mLong : ∃ t, mg "_LONGEST_GAP" = some (.int 1000000000000 t)
  mFact : ∃ t, mg "_GREATEST_FACTOR" = some (.int 1000 t)
  mLast : ∃ t, mg "LAST_GROWING" = some (.int 1000 t)

/-! ### the data -/
/-- a rule's tail -/
inductive Tl where
  | fin
  | times (b : Int)
  | rep (n : Nat)
def Tl.vs : Tl → List V
  | .fin => [.str "end"]
  | .times b => [.str "times", .int b]
  | .rep n => [.str "repeat", .int (n : Int)]
def GapsOk (gs : List Int) : Prop := gs.length ≤ 20 ∧ ∀ g ∈ gs, 1 ≤ g ∧ g ≤ 1000000000000
def TlOk (many : Nat) : Tl → Prop
  | .fin => True
  | .times b => 0 < many ∧ 2 ≤ b ∧ b ≤ 1000
  | .rep n => 1 ≤ n ∧ n ≤ many
/-- the sum of the first k gaps -/
def pre (gs : List Int) (k : Nat) : Int := (gs.take k).sum
def offs (gs : List Int) : List Int := (List.range (gs.length + 1)).map (pre gs)
theorem offs_len (gs : List Int) : (offs gs).length = gs.length + 1 := by simp [offs]
theorem offs_get (gs : List Int) {k : Nat} (h : k ≤ gs.length) : (offs gs)[k]? = some (pre gs k) := by
  unfold offs
  rw [List.getElem?_map, List.getElem?_range (by omega)]
  rfl
theorem pre_zero (gs : List Int) : pre gs 0 = 0 := rfl
theorem pre_succ (gs : List Int) {k : Nat} {g : Int} (h : gs[k]? = some g) : pre gs (k + 1) = pre gs k + g := by
  unfold pre
  rw [List.take_add_one, h, List.sum_append]
  simp
theorem iteFb {b : Bool} {A B : Prop} (e : b = false) (h : B) : if b = true then A else B := by
  rw [e]
  exact iteF h
theorem iteTb {b : Bool} {A B : Prop} (e : b = true) (h : A) : if b = true then A else B := by
  rw [e]
  exact iteT h
theorem yes_t {Q : Bool → Hp → Prop} {σ : L2.St} {H : Hp} (h : Q true H) : tYes σ H Q := h
theorem at_map {xs : List Int} {j : Nat} {v : Int} (h : xs[j]? = some v) : atI (xs.map V.int) (j : Int) = some (.int v) := atI_nat (by rw [List.getElem?_map, h]; rfl)
theorem at_back {α : Type} {xs : List α} {j : Nat} {v : α} (h0 : 0 < j) (hj : j ≤ xs.length) (h : xs[xs.length - j]? = some v) : atI xs (-(j : Int)) = some v := by
  have e : ixN xs.length (-(j : Int)) = some (xs.length - j) := by
    unfold ixN
    rw [if_neg (by omega), if_pos (by omega)]
    congr 1
    omega
  unfold atI
  rw [e]
  exact h
theorem at_back1 {α : Type} {xs : List α} {v : α} (hj : 0 < xs.length) (h : xs[xs.length - 1]? = some v) : atI xs (-1) = some v := at_back (j := 1) (by omega) hj h

section
variable {P : Program} {w : World} {K : PySem.W.Frag} {mg : Str → Option Value} {base : Heap}
/-! ### is_integer -/
def spIsInt : Sp := fun vs H Q _ => ∃ i, vs = [.int i] ∧ Q (.bl true) H
theorem scIsInt : FnScope ["value"] ["value"] (defScope s_is_integer) := ⟨rfl, rfl, rfl, by decide +kernel, rfl, by decide +kernel, by decide +kernel⟩
theorem ok_isInt {f C : Addr} {fd : FuncData} (F : Fun K "is_integer" "is_integer" s_is_integer f fd) (T : Txt K mg C) : FnOk P w K mg base CX0 1 f fd ["value"] spIsInt := by
  refine F.ok scIsInt (fun vs H Q E h => ?_) (fun cdv A outer s H vs Q E hr h => ?_)
  · obtain ⟨i, rfl, _⟩ := h
    rfl
  · obtain ⟨i, rfl, k⟩ := h
    refine ⟨_, pss_one (ps_ret (pe_and (pe_callB call_isi (by rfl) T.isi (by decide +kernel) (pa_cons (pv 0) (pa_cons (pe_bltn (v := .ty "int") (by rfl) T.int (by decide +kernel) rfl) pa_nil))) (pe_one (pe_not (pe_callB call_isi (by rfl) T.isi (by decide +kernel) (pa_cons (pv 0) (pa_cons (pe_bltn (v := .ty "bool") (by rfl) T.bool (by decide +kernel) rfl) pa_nil))))))), ?_⟩
    refine ⟨_, rfl, _, _, _, _, _, rfl, .ty _, .base (.int i), kit_ty (r := true) (by decide +kernel), true, rfl, ?_⟩
    refine iteT ?_
    exact ⟨_, rfl, _, _, _, _, _, rfl, .ty _, .base (.int i), kit_ty (r := false) (by decide +kernel), false, rfl, k⟩

/-! ### _are_gaps -/
def spAreGaps : Sp := fun vs H Q _ => ∃ a gs, ∃ most : Nat, vs = [.ref a, .int (most : Int)] ∧ H a = some (.lst (gs.map V.int)) ∧ GapsOk gs ∧ gs.length ≤ most ∧ ∀ H', Same H H' → Q (.bl true) H'
theorem scAreGaps : FnScope ["value", "most", "gap"] ["value", "most"] (defScope s_are_gaps) := ⟨rfl, rfl, rfl, by decide +kernel, rfl, by decide +kernel, by decide +kernel⟩
theorem ok_areGaps {f C fi : Addr} {fd fdi : FuncData} (F : Fun K "are_gaps" "are_gaps" s_are_gaps f fd) (T : Txt K mg C) (FI : Fun K "is_integer" "is_integer" s_is_integer fi fdi) (bI : Binds K fdi ["value"] []) (mI : mg "is_integer" = some (.ref fi)) : FnOk P w K mg base CX0 2 f fd ["value", "most"] spAreGaps := by
  have GI : FnOk P w K mg base CX0 1 fi fdi ["value"] spIsInt := ok_isInt FI T
  obtain ⟨t2, m2⟩ := T.mLong
  refine F.ok scAreGaps (fun vs H Q E h => ?_) (fun cdv A outer s H vs Q E hr h => ?_)
  · obtain ⟨a, gs, most, rfl, _⟩ := h
    rfl
  · obtain ⟨a, gs, most, rfl, ha, ok, okm, k⟩ := h
    refine ⟨_, (pss_cons (ps_if (PW.pt (pw_or (pt_not (pt_val (pe_callB call_isi (by rfl) T.isi (by decide +kernel) (pa_cons (pv 0) (pa_cons (pe_bltn (v := .ty "list") (by rfl) T.list (by decide +kernel) rfl) pa_nil))))) (pw_or1 (pt_cmpR op_gt (pe_callB call_len_seq (by rfl) T.len (by decide +kernel) (pa_cons (pv 0) pa_nil)) (pv 1) (nomark _))))) (pss_one (ps_ret pe_bl)) pss_nil) (pss_one (ps_ret (pe_callB (cr_all rfl) (by rfl) T.all (by decide +kernel) (pa_cons (pe_lc (own := [("gap", 2)]) (g := gName 2) (tt := tYes) rfl scAreGaps.nd (pi_list (pv 0)) (blkOk_by (own := [("gap", 2)]) (N := ["value", "most", "gap"]) (sc := defScope s_are_gaps) (by decide +kernel))
          (fun _ _ _ _ _ => (pg_name (i := 2) scAreGaps.nd rfl (Or.inl rfl))) (fun _ _ _ _ _ => pts_nil)
          (fun _ _ _ _ _ => pe_and (pe_call GI hr rfl mI FI.kp bI .nil pass0 (pa_cons (pv 2) pa_nil)) (pe_one (pe_chain op_le op_le pe_int (pv 2) (pe_glob (v := .int 1000000000000) rfl m2 ⟨_, rfl⟩))))) pa_nil))))), ?_⟩
    refine ⟨_, rfl, _, _, _, _, _, rfl, .ty _, .base (.lst ha), kit_ty (r := true) (by decide +kernel), true, rfl, ?_⟩
    refine iteF ?_
    refine ⟨_, rfl, a, _, rfl, .inl (SqL.of ha), _, rfl, _, _, rfl, rfl, _, rfl, ?_⟩
    refine iteFb (decide_eq_false (by rw [List.length_map]; omega)) ?_
    refine ⟨_, rfl, a, rfl, ⟨_, SqL.of ha⟩, fun D hD => lc_list (a := a) (xs := gs.map V.int) (fun i H' => Same H H' ∧ H' D = some (.lst ((List.replicate i true).map V.bl))) ⟨?_, upd_same⟩ (fun i H' _ p => p.1.seq (SqL.of ha)) (fun i x H' hx p => ?_) (fun H' p => ?_)⟩
    · intro b o e
      rw [upd_ne (ne_of_none e hD)]
      exact e
    · obtain ⟨g, hg, rfl⟩ : ∃ g, gs[i]? = some g ∧ x = .int g := by
        rw [List.getElem?_map] at hx
        cases e : gs[i]? with
        | none => rw [e] at hx; cases hx
        | some g => rw [e] at hx; exact ⟨g, rfl, (Option.some.inj hx).symm⟩
      have hb := ok.2 g (List.mem_of_getElem? hg)
      have hi : i < gs.length := (List.getElem?_eq_some_iff.mp hg).1
      refine ⟨rfl, ?_⟩
      refine yes_t (iteT ?_)
      refine ⟨_, rfl, g, rfl, true, rfl, iteT ?_⟩
      refine ⟨_, rfl, _, _, rfl, rfl, _, rfl, iteTb (decide_eq_true hb.1) ?_⟩
      refine ⟨_, _, rfl, rfl, _, p.2, ?_, fun b o e => ?_, ?_⟩
      · rw [List.length_map, List.length_replicate]
        exact small1000 (by have := ok.1; omega)
      · rw [upd_ne (ne_of_none e hD)]
        exact p.1 b o e
      · rw [upd_same, List.replicate_succ', List.map_append]
        show some (HO.lst (List.map V.bl (List.replicate i true) ++ [V.bl (decide (g ≤ 1000000000000))])) = _
        rw [decide_eq_true hb.2]
        rfl
    · refine ⟨D, _, rfl, SqL.of p.2, ?_⟩
      have e : (List.replicate (gs.map V.int).length true).all id = true := by
        rw [List.all_eq_true]
        intro x hx
        rw [(List.mem_replicate.mp hx).2]
        rfl
      rw [e]
      exact k H' p.1

/-! ### _is_tail -/
def spIsTail : Sp := fun vs H Q _ => ∃ (t : Addr) (tl : Tl) (n : Nat), vs = [.ref t, .int (n : Int)] ∧ H t = some (.tup tl.vs) ∧ TlOk n tl ∧ ∀ H', Same H H' → Q (.bl true) H'
theorem scIsTail : FnScope ["value", "many"] ["value", "many"] (defScope s_is_tail) := ⟨rfl, rfl, rfl, by decide +kernel, rfl, by decide +kernel, by decide +kernel⟩
theorem same_new {H : Hp} {p : Addr} {o : HO} (h : H p = none) : Same H (upd H p o) := fun b u e => by
  rw [upd_ne (ne_of_none e h)]
  exact e
theorem ok_isTail {f C fi : Addr} {fd fdi : FuncData} (F : Fun K "_is_tail" "_is_tail" s_is_tail f fd) (T : Txt K mg C) (FI : Fun K "is_integer" "is_integer" s_is_integer fi fdi) (bI : Binds K fdi ["value"] []) (mI : mg "is_integer" = some (.ref fi)) : FnOk P w K mg base CX0 2 f fd ["value", "many"] spIsTail := by
  have GI : FnOk P w K mg base CX0 1 fi fdi ["value"] spIsInt := ok_isInt FI T
  obtain ⟨t1, m1⟩ := T.mFact
  refine F.ok scIsTail (fun vs H Q E h => ?_) (fun cdv A outer s H vs Q E hr h => ?_)
  · obtain ⟨t, tl, n, rfl, _⟩ := h
    rfl
  · obtain ⟨t, tl, n, rfl, ht, ok, k⟩ := h
    refine ⟨_, (pss_cons (ps_if (PW.pt (pw_or (pt_not (pt_val (pe_callB call_isi (by rfl) T.isi (by decide +kernel) (pa_cons (pv 0) (pa_cons (pe_bltn (v := .ty "tuple") (by rfl) T.tuple (by decide +kernel) rfl) pa_nil))))) (pw_or1 (pt_cmpR op_notIn_seq (pe_callB call_len_seq (by rfl) T.len (by decide +kernel) (pa_cons (pv 0) pa_nil)) (pe_tup (pa_cons pe_int (pa_cons pe_int pa_nil))) (by rfl))))) (pss_one (ps_ret pe_bl)) pss_nil) (pss_cons (ps_if (pt_not (pt_val (pe_callB call_isi (by rfl) T.isi (by decide +kernel) (pa_cons (pe_ix ix_tup (pv 0) pe_int (fun _ _ => rfl)) (pa_cons (pe_bltn (v := .ty "str") (by rfl) T.str (by decide +kernel) rfl) pa_nil))))) (pss_one (ps_ret pe_bl)) pss_nil) (pss_cons (ps_if (pt_cmpR op_eq (pe_callB call_len_seq (by rfl) T.len (by decide +kernel) (pa_cons (pv 0) pa_nil)) pe_int (nomark _)) (pss_one (ps_ret (pe_cmpR op_eq (pe_ix ix_tup (pv 0) pe_int (fun _ _ => rfl)) pe_str (nomark _)))) pss_nil) (pss_cons (ps_if (pt_not (pt_val (pe_call GI hr rfl mI FI.kp bI .nil pass0 (pa_cons (pe_ix ix_tup (pv 0) pe_int (fun _ _ => rfl)) pa_nil)))) (pss_one (ps_ret pe_bl)) pss_nil) (pss_cons (ps_if (pt_cmpR op_eq (pe_ix ix_tup (pv 0) pe_int (fun _ _ => rfl)) pe_str (nomark _)) (pss_one (ps_ret (pe_and (pe_cmpR op_gt (pv 1) pe_int (nomark _)) (pe_one (pe_chain op_le op_le pe_int (pe_ix ix_tup (pv 0) pe_int (fun _ _ => rfl)) (pe_glob (v := .int 1000) rfl m1 ⟨_, rfl⟩)))))) pss_nil) (pss_one (ps_ret (pe_and (pe_cmpR op_eq (pe_ix ix_tup (pv 0) pe_int (fun _ _ => rfl)) pe_str (nomark _)) (pe_one (pe_chain op_le op_le pe_int (pe_ix ix_tup (pv 0) pe_int (fun _ _ => rfl)) (pv 1))))))))))), ?_⟩
    refine ⟨_, rfl, _, _, _, _, _, rfl, .ty _, .base (.tup ht), kit_ty (r := true) (by decide +kernel), true, rfl, ?_⟩
    refine iteF ?_
    refine ⟨_, rfl, t, _, rfl, .inr (SqT.of ht), by show 2 ≤ sizeLine; decide, fun q hq => ?_⟩
    have hS : Same H (upd H q (.tup [.int 1, .int 2])) := same_new hq
    have ht2 := hS t _ ht
    refine ⟨q, _, rfl, .inr (SqT.of upd_same), rfl, rfl, _, rfl, ?_⟩
    cases tl with
    | fin =>
      refine iteFb (by decide +kernel) ?_
      refine ⟨_, rfl, t, _, _, _, rfl, rfl, SqT.of ht2, atI_nat (j := 0) rfl, _, _, _, _, _, rfl, .ty _, .base (.str _), kit_ty (r := true) (by decide +kernel), true, rfl, iteF ?_⟩
      refine ⟨_, rfl, t, _, rfl, .inr (SqT.of ht2), rfl, _, rfl, iteTb (by decide +kernel) ?_⟩
      refine ⟨_, rfl, t, _, _, _, rfl, rfl, SqT.of ht2, atI_nat (j := 0) rfl, rfl, ?_⟩
      exact k _ hS
    | times b =>
      refine iteFb (by show (!inV (V.int 2) [V.int 1, V.int 2]) = false; decide +kernel) ?_
      refine ⟨_, rfl, t, _, _, _, rfl, rfl, SqT.of ht2, atI_nat (j := 0) rfl, _, _, _, _, _, rfl, .ty _, .base (.str _), kit_ty (r := true) (by decide +kernel), true, rfl, iteF ?_⟩
      refine ⟨_, rfl, t, _, rfl, .inr (SqT.of ht2), rfl, _, rfl, iteFb (by show decide (V.int 2 = V.int 1) = false; decide +kernel) ?_⟩
      refine ⟨_, rfl, t, _, _, _, rfl, rfl, SqT.of ht2, atI_nat (j := 1) rfl, b, rfl, true, rfl, iteF ?_⟩
      refine ⟨_, rfl, t, _, _, _, rfl, rfl, SqT.of ht2, atI_nat (j := 0) rfl, rfl, _, rfl, iteTb (by decide +kernel) ?_⟩
      refine ⟨_, rfl, _, _, rfl, rfl, _, rfl, iteTb (decide_eq_true (by have := ok.1; omega)) ?_⟩
      refine ⟨_, rfl, t, _, _, _, rfl, rfl, SqT.of ht2, atI_nat (j := 1) rfl, _, _, rfl, rfl, _, rfl, iteTb (decide_eq_true ok.2.1) ?_⟩
      refine ⟨_, _, rfl, rfl, ?_⟩
      show Q (.bl (decide (b ≤ 1000))) _
      rw [decide_eq_true ok.2.2]
      exact k _ hS
    | rep m =>
      refine iteFb (by show (!inV (V.int 2) [V.int 1, V.int 2]) = false; decide +kernel) ?_
      refine ⟨_, rfl, t, _, _, _, rfl, rfl, SqT.of ht2, atI_nat (j := 0) rfl, _, _, _, _, _, rfl, .ty _, .base (.str _), kit_ty (r := true) (by decide +kernel), true, rfl, iteF ?_⟩
      refine ⟨_, rfl, t, _, rfl, .inr (SqT.of ht2), rfl, _, rfl, iteFb (by show decide (V.int 2 = V.int 1) = false; decide +kernel) ?_⟩
      refine ⟨_, rfl, t, _, _, _, rfl, rfl, SqT.of ht2, atI_nat (j := 1) rfl, _, rfl, true, rfl, iteF ?_⟩
      refine ⟨_, rfl, t, _, _, _, rfl, rfl, SqT.of ht2, atI_nat (j := 0) rfl, rfl, _, rfl, iteFb (by decide +kernel) ?_⟩
      refine ⟨_, rfl, t, _, _, _, rfl, rfl, SqT.of ht2, atI_nat (j := 0) rfl, rfl, true, by decide +kernel, iteT ?_⟩
      refine ⟨_, rfl, t, _, _, _, rfl, rfl, SqT.of ht2, atI_nat (j := 1) rfl, _, _, rfl, rfl, _, rfl, iteTb (decide_eq_true (by have := ok.1; omega)) ?_⟩
      refine ⟨_, rfl, _, _, rfl, rfl, ?_⟩
      show Q (.bl (decide (((m : Nat) : Int) ≤ (n : Int)))) _
      rw [decide_eq_true (show ((m : Nat) : Int) ≤ (n : Int) by have := ok.2; omega)]
      exact k _ hS
end
end RS
/-! ### comprehensions that only make values -/
namespace L2
open PySem PySem.Spec PyProof.Rows
/-- what the first i turns have made -/
def selTo (sel : Nat → Option V) (i : Nat) : List V := (List.range i).filterMap sel
theorem selTo_succ (sel : Nat → Option V) (i : Nat) : selTo sel (i + 1) = selTo sel i ++ (sel i).toList := by
  unfold selTo
  rw [List.range_succ, List.filterMap_append]
  cases h : sel i <;> simp [h]
theorem selTo_le (sel : Nat → Option V) (i : Nat) : (selTo sel i).length ≤ i := by
  unfold selTo
  have := List.length_filterMap_le sel (List.range i)
  rw [List.length_range] at this
  exact this
theorem selTo_get (ys : List V) : ∀ i, i ≤ ys.length → selTo (fun j : Nat => ys[j]?) i = ys.take i
  | 0, _ => rfl
  | i + 1, h => by
    rw [selTo_succ, selTo_get ys i (by omega), List.take_add_one]
theorem same_app {H1 H : Hp} {D : Addr} {o : HO} (hD : H1 D = none) (S : Same H1 H) : Same H1 (upd H D o) := fun b u e => by
  rw [upd_ne (ne_of_none e hD)]
  exact S b u e
theorem small_line {n : Nat} (h : n ≤ 100000) : n < sizeLine := Nat.lt_of_le_of_lt h (by decide +kernel)
/-- xs[i] in a block, K written -/
theorem pe_ixK {X : Cx} (K : PySem.W.Frag) (hK : X.K = K) {o i : Expr} {to ti : TE} {pos : Pos} (ho : PE X o to) (hi : PE X i ti) (hp : PlainIx i := by exact fun _ _ => rfl) : PE X (.Subscript o i pos) (tOp (rIxL K) to ti) := by
  subst hK
  exact pe_ix ix_list ho hi hp
theorem pe_ixTK {X : Cx} (K : PySem.W.Frag) (hK : X.K = K) {o i : Expr} {to ti : TE} {pos : Pos} (ho : PE X o to) (hi : PE X i ti) (hp : PlainIx i := by exact fun _ _ => rfl) : PE X (.Subscript o i pos) (tOp (rIxT K) to ti) := by
  subst hK
  exact pe_ix ix_tup ho hi hp
section
variable {X : Cx} {e tg : Expr} {te : TE} {p pos : Pos}
theorem pi_listK (K : PySem.W.Frag) (hK : X.K = K) (h : PE X e te) : PI X tg e (iList K te) := by
  subst hK
  exact pi_list h
theorem pi_tupK (K : PySem.W.Frag) (hK : X.K = K) (h : PE X e te) : PI X tg e (iTup K te) := by
  subst hK
  exact pi_tup h
theorem pe_allK (K : PySem.W.Frag) (hK : X.K = K) (hc : X.calm = true) (hg : Gl X "all") (hm : X.mg "all" = none) (ha : PE X e te) (hs : starEach [e] X.env = (false, eval e X.env) :: starEach [] X.env := by rfl) : PE X (.Call (.Name "all" p) [e] [] pos) (tCB (rAll K) (tCons te tNil)) := by
  subst hK
  exact pe_callB (cr_all hc) hg hm (by decide +kernel) (pa_cons ha pa_nil hs) (he := hs)
theorem pe_minK (K : PySem.W.Frag) (hK : X.K = K) (hc : X.calm = true) (hg : Gl X "min") (hm : X.mg "min" = none) (ha : PE X e te) (hs : starEach [e] X.env = (false, eval e X.env) :: starEach [] X.env := by rfl) : PE X (.Call (.Name "min" p) [e] [] pos) (tCB (rMin K) (tCons te tNil)) := by
  subst hK
  exact pe_callB (cr_min hc) hg hm (by decide +kernel) (pa_cons ha pa_nil hs) (he := hs)
end
section
variable {K : PySem.W.Frag} {a : Addr} {xs : List V} {g : TG} {tt : TT} {te : TE} {vs : List Nat} {σ : St} {H1 : Hp} {D : Addr} {Qd : Hp → Prop}
/-- over a list: turn i makes sel i, or nothing -/
theorem lc_sel (sel : Nat → Option V) (hx : SqL K H1 a xs) (hD : H1 D = none) (hn : xs.length ≤ 100000)
    (hs : ∀ (i : Nat) (x : V) (H : Hp) (Q : Option V → Hp → Prop), xs[i]? = some x → Same H1 H → (∀ H', Same H H' → Q (sel i) H') → g x (wipe σ vs) H fun σ2 H2 => wipe σ2 vs = wipe σ vs ∧ tt σ2 H2 fun b H3 =>
      if b = true then te σ2 H3 fun y H4 => Q (some y) H4 else Q none H3)
    (hd : ∀ H, Same H1 H → H D = some (.lst (selTo sel xs.length)) → Qd H) :
    ∃ W : Nat → Nat → Hp → Prop, (∃ m, W 0 m (upd H1 D (.lst []))) ∧ ∀ i m H, W i m H →
      ((Itl K a).stop i H ∧ Qd H) ∨ ((Itl K a).go i H ∧ ∃ Nx : Hp → Prop, (∀ H', Nx H' → ∃ m', m' < m ∧ W (i + 1) m' H') ∧ ∀ x H', (Itl K a).yld i H x H' → g x (wipe σ vs) H' fun σ2 H2 => wipe σ2 vs = wipe σ vs ∧ tt σ2 H2 fun b H3 =>
        if b = true then te σ2 H3 fun y H4 => ∃ acc, H4 D = some (.lst acc) ∧ acc.length < sizeLine ∧ Nx (upd H4 D (.lst (acc ++ [y]))) else Nx H3) := by
  refine lc_list (a := a) (xs := xs) (fun i H => i ≤ xs.length ∧ Same H1 H ∧ H D = some (.lst (selTo sel i))) ⟨Nat.zero_le _, same_app hD (fun _ _ e => e), upd_same⟩ (fun i H _ p => p.2.1.seq hx) (fun i x H hi p => ?_) (fun H p => hd H p.2.1 p.2.2)
  have hlt : i < xs.length := (List.getElem?_eq_some_iff.mp hi).1
  refine hs i x H (fun o H' => match o with | some y => ∃ acc, H' D = some (.lst acc) ∧ acc.length < sizeLine ∧ (i + 1 ≤ xs.length ∧ Same H1 (upd H' D (.lst (acc ++ [y]))) ∧ upd H' D (.lst (acc ++ [y])) D = some (.lst (selTo sel (i + 1)))) | none => i + 1 ≤ xs.length ∧ Same H1 H' ∧ H' D = some (.lst (selTo sel (i + 1)))) hi p.2.1 (fun H' S => ?_)
  have hl := selTo_le sel i
  rw [selTo_succ]
  cases sel i with
  | none => exact ⟨hlt, p.2.1.trans S, by simpa using S _ _ p.2.2⟩
  | some y => exact ⟨_, S _ _ p.2.2, small_line (by omega), hlt, same_app hD (p.2.1.trans S), upd_same⟩
/-- over a range -/
theorem lc_selR {lo : Int} {n : Nat} (sel : Nat → Option V) (hD : H1 D = none) (hn : n ≤ 100000)
    (hs : ∀ (i : Nat) (H : Hp) (Q : Option V → Hp → Prop), i < n → Same H1 H → (∀ H', Same H H' → Q (sel i) H') → g (.int (lo + i)) (wipe σ vs) H fun σ2 H2 => wipe σ2 vs = wipe σ vs ∧ tt σ2 H2 fun b H3 =>
      if b = true then te σ2 H3 fun y H4 => Q (some y) H4 else Q none H3)
    (hd : ∀ H, Same H1 H → H D = some (.lst (selTo sel n)) → Qd H) :
    ∃ W : Nat → Nat → Hp → Prop, (∃ m, W 0 m (upd H1 D (.lst []))) ∧ ∀ i m H, W i m H →
      ((Itr lo n).stop i H ∧ Qd H) ∨ ((Itr lo n).go i H ∧ ∃ Nx : Hp → Prop, (∀ H', Nx H' → ∃ m', m' < m ∧ W (i + 1) m' H') ∧ ∀ x H', (Itr lo n).yld i H x H' → g x (wipe σ vs) H' fun σ2 H2 => wipe σ2 vs = wipe σ vs ∧ tt σ2 H2 fun b H3 =>
        if b = true then te σ2 H3 fun y H4 => ∃ acc, H4 D = some (.lst acc) ∧ acc.length < sizeLine ∧ Nx (upd H4 D (.lst (acc ++ [y]))) else Nx H3) := by
  refine lc_range (fun i H => i ≤ n ∧ Same H1 H ∧ H D = some (.lst (selTo sel i))) ⟨Nat.zero_le _, same_app hD (fun _ _ e => e), upd_same⟩ (fun i H hlt p => ?_) (fun H p => hd H p.2.1 p.2.2)
  refine hs i H (fun o H' => match o with | some y => ∃ acc, H' D = some (.lst acc) ∧ acc.length < sizeLine ∧ (i + 1 ≤ n ∧ Same H1 (upd H' D (.lst (acc ++ [y]))) ∧ upd H' D (.lst (acc ++ [y])) D = some (.lst (selTo sel (i + 1)))) | none => i + 1 ≤ n ∧ Same H1 H' ∧ H' D = some (.lst (selTo sel (i + 1)))) hlt p.2.1 (fun H' S => ?_)
  have hl := selTo_le sel i
  rw [selTo_succ]
  cases sel i with
  | none => exact ⟨hlt, p.2.1.trans S, by simpa using S _ _ p.2.2⟩
  | some y => exact ⟨_, S _ _ p.2.2, small_line (by omega), hlt, same_app hD (p.2.1.trans S), upd_same⟩
theorem yes_ite {te : TE} {F : V → Hp → Prop} {N : Hp → Prop} {σ : St} {H : Hp} : (tYes σ H fun b H3 => if b = true then te σ H3 F else N H3) = te σ H F := by simp [tYes]
/-- over a list, without a test: the values ys -/
theorem lc_map (ys : List V) (hx : SqL K H1 a xs) (hD : H1 D = none) (hl : ys.length = xs.length) (hn : xs.length ≤ 100000)
    (hs : ∀ (i : Nat) (x y : V) (H : Hp) (Q : V → Hp → Prop), xs[i]? = some x → ys[i]? = some y → Same H1 H → (∀ H', Same H H' → Q y H') → g x (wipe σ vs) H fun σ2 H2 => wipe σ2 vs = wipe σ vs ∧ te σ2 H2 Q)
    (hd : ∀ H, Same H1 H → H D = some (.lst ys) → Qd H) :
    ∃ W : Nat → Nat → Hp → Prop, (∃ m, W 0 m (upd H1 D (.lst []))) ∧ ∀ i m H, W i m H →
      ((Itl K a).stop i H ∧ Qd H) ∨ ((Itl K a).go i H ∧ ∃ Nx : Hp → Prop, (∀ H', Nx H' → ∃ m', m' < m ∧ W (i + 1) m' H') ∧ ∀ x H', (Itl K a).yld i H x H' → g x (wipe σ vs) H' fun σ2 H2 => wipe σ2 vs = wipe σ vs ∧ tYes σ2 H2 fun b H3 =>
        if b = true then te σ2 H3 fun y H4 => ∃ acc, H4 D = some (.lst acc) ∧ acc.length < sizeLine ∧ Nx (upd H4 D (.lst (acc ++ [y]))) else Nx H3) := by
  refine lc_sel (fun j : Nat => ys[j]?) hx hD hn (fun i x H Q hi S q => ?_) (fun H S h => hd H S (by rw [← hl, selTo_get ys _ (Nat.le_refl _), List.take_length] at h; exact h))
  have hlt : i < xs.length := (List.getElem?_eq_some_iff.mp hi).1
  have hy : ys[i]? = some ys[i] := List.getElem?_eq_getElem (by omega)
  simp only [yes_ite]
  exact hs i x _ H (fun y H' => Q (some y) H') hi hy S fun H' S' => hy ▸ q H' S'
theorem lc_mapR {lo : Int} {n : Nat} (ys : List V) (hD : H1 D = none) (hl : ys.length = n) (hn : n ≤ 100000)
    (hs : ∀ (i : Nat) (y : V) (H : Hp) (Q : V → Hp → Prop), i < n → ys[i]? = some y → Same H1 H → (∀ H', Same H H' → Q y H') → g (.int (lo + i)) (wipe σ vs) H fun σ2 H2 => wipe σ2 vs = wipe σ vs ∧ te σ2 H2 Q)
    (hd : ∀ H, Same H1 H → H D = some (.lst ys) → Qd H) :
    ∃ W : Nat → Nat → Hp → Prop, (∃ m, W 0 m (upd H1 D (.lst []))) ∧ ∀ i m H, W i m H →
      ((Itr lo n).stop i H ∧ Qd H) ∨ ((Itr lo n).go i H ∧ ∃ Nx : Hp → Prop, (∀ H', Nx H' → ∃ m', m' < m ∧ W (i + 1) m' H') ∧ ∀ x H', (Itr lo n).yld i H x H' → g x (wipe σ vs) H' fun σ2 H2 => wipe σ2 vs = wipe σ vs ∧ tYes σ2 H2 fun b H3 =>
        if b = true then te σ2 H3 fun y H4 => ∃ acc, H4 D = some (.lst acc) ∧ acc.length < sizeLine ∧ Nx (upd H4 D (.lst (acc ++ [y]))) else Nx H3) := by
  refine lc_selR (fun j : Nat => ys[j]?) hD hn (fun i H Q hlt S q => ?_) (fun H S h => hd H S (by rw [← hl, selTo_get ys _ (Nat.le_refl _), List.take_length] at h; exact h))
  have hy : ys[i]? = some ys[i] := List.getElem?_eq_getElem (by omega)
  simp only [yes_ite]
  exact hs i _ H (fun y H' => Q (some y) H') hlt hy S fun H' S' => hy ▸ q H' S'
end
end L2
/-! ### set(xs) of a list of ints -/
namespace L2
open PySem PySem.Spec PyProof.Rows
def eset (w : World) : Obj := { cls := .type "set", dict := none, data := .set #[] 0 (.fresh 0 0 (!w.params.followText "set-order")) }
section
variable {P : Program} {w : World} {A : Around} {E : Value → Shared → Prop} {s : Shared}
set_option maxHeartbeats 4000000 in
theorem set_from {l : Addr} {its : Array Value} (zs : List Int) {Q : Value → Shared → Prop} (calm : A.handled = none) (isl : s.heap.IsList l its) (hz : IntsAre its.toList zs) (few : zs.length + 1 < scanBound)
    (fin : ∀ (g : Heap) (tt n : Nat), SetR w g s.heap.objs.size (fun j => decide (j ∈ zs)) n → n ≤ zs.length → (∀ b o, s.heap.get? b = some o → g.get? b = some o) → Q (.ref s.heap.objs.size) { s with heap := g, toks := tt }) :
    wpAny (model P w) A (call (.type "set") [.ref l]) Q E s := by
  have many : its.size = zs.length := by simpa using IntsAre.length hz
  have k1 := F.called_set
  obtain ⟨cc, tll, mroS⟩ := k1.mro
  have m1 := k1.made; have m2 := k1.sub; have m3 := k1.notType; have m4 := k1.canCreate; have m5 := F.typeCall_set_1 (.ref l)
  refine wpAny_call (codeAny_of_tree (show wpAny _ _ (callAny (.type "set") _) _ _ _ from wpAny_pure ⟨Code.quiet_builtin _ (by decide +kernel), codeAny_builtin F.entry_type_call ?_⟩))
  rw [Around.under_plain (weight_type_call_type "set" [.ref l] []) rfl]
  repeat (any_goals (first | assumption | wp_step))
  refine codeAny_mono (code_set_led1 (.ref l) (E := E) (Q₁ := fun ob t => ob = .ref s.heap.objs.size ∧ t = { s with heap := s.heap.push (eset w) }) ⟨rfl, rfl⟩) fun out t1 told => ?_
  match out, told with
  | .error _, told => exact told
  | .ok .next, told => exact told.elim
  | .ok .brk, told => exact told.elim
  | .ok .cont, told => exact told.elim
  | .ok (.ret ob), ⟨eo, et⟩ =>
    subst eo et
    have atS : (s.heap.push (eset w)).get? s.heap.objs.size = some (eset w) := Heap.get?_push_size _ rfl
    have tyS : Shared.TypeIs { s with heap := s.heap.push (eset w) } (.ref s.heap.objs.size) "set" := ⟨_, atS, rfl⟩
    have n1 := k1.init.lookup; have n2 := k1.init.bind (.ref s.heap.objs.size)
    repeat (any_goals (first | assumption | wp_step))
    refine codeAny_mono (codeAny_call_builtin (R := wants (fun r t => r = .none ∧ ∃ g tt n, t = { s with heap := g, toks := tt } ∧ SetR w g s.heap.objs.size (fun j => decide (j ∈ zs)) n ∧ n ≤ zs.length ∧ ∀ b o, s.heap.get? b = some o → g.get? b = some o) E) k1.init.plain F.entry_set_init (check_set_init_1 tyS ?_)) fun out t2 told => ?_
    · obtain ⟨⟨oc, od, odt, osl⟩, atL, cl, nn, dt⟩ := isl
      simp only at cl dt
      subst cl dt
      have atL1 : (s.heap.push (eset w)).get? l = some { cls := .type "list", dict := od, data := .seq its nn, slots := osl } := Heap.get?_push_of_some _ atL
      have q1 := F.sub_list_set; have q2 := F.sub_list_frozenset
      have q3 : (Value.type "list" == Value.type "dict") = false := by decide
      have isl1 : (s.heap.push (eset w)).IsList l its := ⟨_, atL1, rfl, nn, rfl⟩
      unfold Builtin.«set.__init__» noKeywords Builtin.Frozenset.updateFrom
      generalize eP : pyIter = PP
      wp_walk
      subst eP
      refine wpAny_pyIter_list isl1 (wpAny_bind (wpAny_runValue ?_))
      have lo : l < s.heap.objs.size := Heap.lt_size atL
      have sz : (s.heap.push (eset w)).objs.size = s.heap.objs.size + 1 := Heap.size_push ..
      have calm3 : A.in1.in1.in1.handled = none := by simp [calm]
      have d1 : l ≠ (s.heap.push (eset w)).objs.size := by rw [sz]; exact Nat.ne_of_lt (Nat.lt_succ_of_lt lo)
      have d2 : s.heap.objs.size ∉ [(s.heap.push (eset w)).objs.size, l] := by
        rw [sz]
        simp only [List.mem_cons, List.not_mem_nil, or_false, not_or]
        exact ⟨Nat.ne_of_lt (Nat.lt_succ_self _), (Nat.ne_of_lt lo).symm⟩
      have vals : ∀ (i : Nat) (v : Value), its[i]? = some v → ∃ k t, zs[i]? = some k ∧ v = .int k t := fun i v hv => by
        have lt : i < zs.length := many ▸ (Array.getElem?_eq_some_iff.mp hv).1
        obtain ⟨t, ev⟩ := IntsAre.int_at hz i v (by simpa using hv)
        exact ⟨zs[i], t, List.getElem?_eq_getElem lt, by rw [ev, List.getD_eq_getElem?_getD, List.getElem?_eq_getElem lt] <;> rfl⟩
      refine set_update_ints ((Walks.list calm3 _ l d1 its).toS) s.heap.objs.size d2 zs many few vals (its.size - 0) 0 _ (by omega) (Nat.zero_le _) ⟨⟨_, Heap.get?_push_size _ rfl, rfl, rfl⟩, isl1.push _⟩ ⟨0, Nat.le_refl 0, setR_new_at (Heap.get?_push_of_some _ atS)⟩ fun t n mv hn R => ?_
      obtain ⟨g, gn, dr, tt, os⟩ := t
      obtain rfl : gn = s.gens := mv.gens
      obtain rfl : dr = s.drawn := mv.drawn
      obtain rfl : os = s.os := mv.os
      show wpAny _ _ _ _ _ _
      refine wpAny_pure (show wpAny _ _ (ret Value.none) _ _ _ from wpAny_pure ⟨rfl, g, tt, n, rfl, R, many ▸ hn, fun b o e => ?_⟩)
      have hb := Heap.lt_size e
      refine mv.heap b o ?_ (Heap.get?_push_of_some _ (Heap.get?_push_of_some _ e))
      simp only [List.mem_cons, List.not_mem_nil, or_false, not_or]
      rw [sz]
      exact ⟨Nat.ne_of_lt hb, Nat.ne_of_lt (Nat.lt_succ_of_lt hb)⟩
    · match out, told with
      | .error _, told => exact told
      | .ok .next, told => exact told.elim
      | .ok .brk, told => exact told.elim
      | .ok .cont, told => exact told.elim
      | .ok (.ret _), ⟨e1, g, tt, n, e2, R, hn, kp⟩ =>
        subst e1 e2
        repeat (any_goals (first | assumption | wp_step))
        exact fin _ _ _ R hn kp
end
section
variable {X : Cx}
def rSetOfL (K : PySem.W.Frag) (w : World) : List V → Hp → VK → Prop := fun xs H Q => ∃ (l : Addr) (ns : List Int), xs = [.ref l] ∧ SqL K H l (ns.map V.int) ∧ ns.length ≤ 4000 ∧ ∀ p n, H p = none → n ≤ ns.length → Q (.ref p) (upd H p (SetO w p (fun j => decide (j ∈ ns)) n))
theorem cr_setL (hc : X.calm = true) : CallR X (.type "set") (rSetOfL X.K X.w) := by
  intro pins s σ H xs us Q I r h
  obtain ⟨l, ns, rfl, hs, hn, q⟩ := h
  obtain ⟨its, rv, hl, _⟩ := I.list hs
  rw [Vals.ref1 r]
  refine set_from ns (I.ok.hd hc) hl.isList (by simpa using rv.ints) (by unfold scanBound; omega) fun g tt n R hle kp => ?_
  exact ⟨.ref _, upd H s.heap.objs.size (SetO X.w s.heap.objs.size (fun j => decide (j ∈ ns)) n), I.laid (t' := tt) kp (Nat.le_refl _) (setO_new R), rfl, q _ _ (I.hok.fresh (Nat.le_refl _)) hle⟩
end
end L2
namespace RS
open PySem L2
theorem kGT : ¬ (("_gaps" : Str) = "_tail") := by decide +kernel
theorem kGO : ¬ (("_gaps" : Str) = "_offsets") := by decide +kernel
theorem kTO : ¬ (("_tail" : Str) = "_offsets") := by decide +kernel
def flds (g t o : Addr) : List (Str × V) := putF "_offsets" (.ref o) (putF "_tail" (.ref t) (putF "_gaps" (.ref g) []))
theorem flds_g (g t o : Addr) : (flds g t o).lookup ("_gaps" : Str) = some (.ref g) := by
  unfold flds
  rw [lookup_putF, if_neg kGO, lookup_putF, if_neg kGT, lookup_putF, if_pos rfl]
theorem flds_t (g t o : Addr) : (flds g t o).lookup ("_tail" : Str) = some (.ref t) := by
  unfold flds
  rw [lookup_putF, if_neg kTO, lookup_putF, if_pos rfl]
theorem flds_o (g t o : Addr) : (flds g t o).lookup ("_offsets" : Str) = some (.ref o) := by
  unfold flds
  rw [lookup_putF, if_pos rfl]
theorem flds_no (g t o : Addr) {m : Str} (h1 : ¬ m = "_offsets") (h2 : ¬ m = "_tail") (h3 : ¬ m = "_gaps") : (flds g t o).lookup m = none := by
  unfold flds
  rw [lookup_putF, if_neg h1, lookup_putF, if_neg h2, lookup_putF, if_neg h3]
  rfl
/-- a rule stands at p -/
structure RuleAt (C : Addr) (H : Hp) (p g t o : Addr) (gs : List Int) (tl : Tl) : Prop where
  ob : ∃ dx, H p = some (.ins C dx (flds g t o))
  hg : H g = some (.lst (gs.map V.int))
  ht : H t = some (.tup tl.vs)
  ho : H o = some (.lst ((offs gs).map V.int))
  okG : GapsOk gs
  okT : TlOk gs.length tl
theorem RuleAt.mono {C : Addr} {H H' : Hp} {p g t o : Addr} {gs : List Int} {tl : Tl} (R : RuleAt C H p g t o gs tl) (h : Same H H') : RuleAt C H' p g t o gs tl :=
  ⟨let ⟨dx, e⟩ := R.ob; ⟨dx, h _ _ e⟩, h _ _ R.hg, h _ _ R.ht, h _ _ R.ho, R.okG, R.okT⟩
theorem map_of {xs : List Int} {i : Nat} {x : V} (hx : (xs.map V.int)[i]? = some x) : ∃ g, xs[i]? = some g ∧ x = .int g := by
  rw [List.getElem?_map] at hx
  cases e : xs[i]? with
  | none => rw [e] at hx; cases hx
  | some g => rw [e] at hx; exact ⟨g, rfl, (Option.some.inj hx).symm⟩

section
variable {P : Program} {w : World} {K : PySem.W.Frag} {mg : Str → Option Value} {base : Heap}
/-! ### _sums -/
def spSums : Sp := fun vs H Q _ => ∃ a gs, vs = [.ref a] ∧ H a = some (.lst (gs.map V.int)) ∧ gs.length ≤ 100 ∧ ∀ p H', H p = none → Same H H' → H' p = some (.lst ((offs gs).map V.int)) → Q (.ref p) H'
theorem scSums : FnScope ["gaps", "offsets", "gap"] ["gaps"] (defScope s_sums) := ⟨rfl, rfl, rfl, by decide +kernel, rfl, by decide +kernel, by decide +kernel⟩
theorem ok_sums {f : Addr} {fd : FuncData} (F : Fun K "sums" "sums" s_sums f fd) : FnOk P w K mg base CX0 1 f fd ["gaps"] spSums := by
  refine F.ok scSums (fun vs H Q E h => ?_) (fun cdv A outer s H vs Q E hr h => ?_)
  · obtain ⟨a, gs, rfl, _⟩ := h
    rfl
  · obtain ⟨a, gs, rfl, ha, hn, k⟩ := h
    refine ⟨_, (pss_cons (ps_set (i := 1) scSums.nd rfl (Or.inl rfl) (pe_lst (pa_cons pe_int pa_nil))) (pss_cons (ps_for PassesOwn.never rfl (pi_list (pv 0)) (pg_name (i := 2) scSums.nd rfl (Or.inl rfl)) (pss_one (ps_expr (pe_bm PySem.F.plainAttrs_list PySem.F.slot_list_append PySem.F.type_list_append mt_append (pv 1) (pa_cons (pe_op op_add (pe_ix ix_list (pv 1) (pe_un un_neg pe_int) (fun _ _ => rfl)) (pv 2)) pa_nil))))) (pss_one (ps_ret (pv 1))))), ?_⟩
    refine ⟨by show 1 ≤ sizeLine; decide, fun l hl => ?_⟩
    have S0 : Same H (upd H l (.lst [.int 0])) := same_new hl
    refine ⟨_, rfl, a, rfl, ⟨_, SqL.of (S0 _ _ ha)⟩, for_list (a := a) (xs := gs.map V.int) (fun i σ H' => ∃ v, σ = [some (.ref a), some (.ref l), v] ∧ Same H H' ∧ H' l = some (.lst (((List.range (i + 1)).map (pre gs)).map V.int))) ⟨none, rfl, S0, upd_same⟩ (fun i σ H' _ ⟨v, _, S, _⟩ => SqL.of (S _ _ ha)) ?_ ?_⟩
    · rintro i x σ H' hx ⟨v, rfl, S, hl'⟩
      obtain ⟨g, hg, rfl⟩ := map_of hx
      have hi : i < gs.length := (List.getElem?_eq_some_iff.mp hg).1
      have hz : (((List.range (i + 1)).map (pre gs)).map V.int).length = i + 1 := by simp
      refine ⟨_, rfl, .inl ⟨rfl, _, SqL.of hl'⟩, _, rfl, _, rfl, l, _, _, _, rfl, rfl, SqL.of hl', at_back1 (v := .int (pre gs i)) (by rw [hz]; omega) ?_, _, rfl, _, _, rfl, rfl, l, _, _, rfl, rfl, hl', by rw [hz]; exact small1000 (by omega), ?_⟩
      · rw [hz, List.getElem?_map, List.getElem?_map, List.getElem?_range (by omega)]
        rfl
      · refine ⟨_, rfl, fun b o e => ?_, ?_⟩
        · rw [upd_ne (ne_of_none e hl)]
          exact S b o e
        · rw [upd_same, List.range_succ (n := i + 1), List.map_append, List.map_append]
          show _ = some (HO.lst (_ ++ [V.int (pre gs (i + 1))]))
          rw [pre_succ gs hg]
    · rintro σ H' ⟨v, rfl, S, hl'⟩
      rw [List.length_map] at hl'
      exact ⟨_, rfl, k l H' hl S hl'⟩

/-! ### _power -/
def spPower : Sp := fun vs H Q _ => ∃ (b : Int) (e : Nat), vs = [.int b, .int (e : Int)] ∧ 0 ≤ b ∧ b < 1024 ∧ e ≤ 1024 ∧ Q (.int (b ^ e)) H
theorem scPower : FnScope ["base", "exponent", "result"] ["base", "exponent"] (defScope s_power) := ⟨rfl, rfl, rfl, by decide +kernel, rfl, by decide +kernel, by decide +kernel⟩
theorem pow_small {b : Int} {n : Nat} (h0 : 0 ≤ b) (h1 : b < 1024) (hn : n ≤ 2048) : (b ^ n).natAbs < 2 ^ 20481 := by
  rw [Int.natAbs_pow]
  have h2 : b.natAbs ≤ 2 ^ 10 := by omega
  have h3 : b.natAbs ^ n ≤ (2 ^ 10) ^ n := Nat.pow_le_pow_left h2 n
  rw [← Nat.pow_mul] at h3
  have h4 : 2 ^ (10 * n) < 2 ^ 20481 := Nat.pow_lt_pow_right (by decide) (by omega)
  omega
theorem half_mod (e k : Nat) : e % 2 ^ (k + 1) = e % 2 ^ k + 2 ^ k * (e / 2 ^ k % 2) := by
  rw [Nat.pow_succ, Nat.mod_mul]
theorem half_div (e k : Nat) : e / 2 ^ k / 2 = e / 2 ^ (k + 1) := by
  rw [Nat.pow_succ, Nat.div_div_eq_div_mul]
theorem ok_power {f : Addr} {fd : FuncData} (F : Fun K "_power" "_power" s_power f fd) : FnOk P w K mg base CX0 1 f fd ["base", "exponent"] spPower := by
  refine F.ok scPower (fun vs H Q E h => ?_) (fun cdv A outer s H vs Q E hr h => ?_)
  · obtain ⟨b, e, rfl, _⟩ := h
    rfl
  · obtain ⟨b, e, rfl, b0, b1, he, k⟩ := h
    refine ⟨_, (pss_cons (ps_set (i := 2) scPower.nd rfl (Or.inl rfl) pe_int) (pss_cons (ps_while PassesOwn.never (pt_cmpR op_gt (pv 1) pe_int (nomark _)) (pss_cons (ps_if (pt_cmpR op_eq (pe_op op_odd (pv 1) pe_int) pe_int (nomark _)) (pss_one (ps_set (i := 2) scPower.nd rfl (Or.inl rfl) (pe_op op_mulW (pv 2) (pv 0)))) pss_nil) (pss_cons (ps_set (i := 0) scPower.nd rfl (Or.inl rfl) (pe_op op_mulW (pv 0) (pv 0))) (pss_one (ps_set (i := 1) scPower.nd rfl (Or.inl rfl) (pe_op op_halfN (pv 1) pe_int)))))) (pss_one (ps_ret (pv 2))))), ?_⟩
    refine ⟨fun m σ H' => H' = H ∧ ∃ j, m = e / 2 ^ j ∧ σ = [some (.int (b ^ (2 ^ j))), some (.int ((e / 2 ^ j : Nat) : Int)), some (.int (b ^ (e % 2 ^ j)))], ⟨e, rfl, 0, by simp, by simp [L2.start, Nat.mod_one]; rw [Int.pow_succ, Int.pow_zero, Int.one_mul]⟩, ?_⟩
    rintro m σ H' ⟨rfl, j, rfl, rfl⟩
    refine ⟨_, rfl, _, _, rfl, rfl, _, rfl, ?_⟩
    by_cases hz : 0 < e / 2 ^ j
    · refine iteTb (decide_eq_true (by omega)) ?_
      have hj : 2 ^ j ≤ e := by
        by_cases hlt : e < 2 ^ j
        · rw [Nat.div_eq_of_lt hlt] at hz; omega
        · omega
      have hj1 : (b ^ (2 ^ j)).natAbs < 2 ^ 20481 := pow_small b0 b1 (by omega)
      have hm : e % 2 ^ j < 2 ^ j := Nat.mod_lt _ (Nat.pow_pos (by decide))
      have hr1 : (b ^ (e % 2 ^ j)).natAbs < 2 ^ 20481 := pow_small b0 b1 (by omega)
      refine ⟨fun σ' H2 => H2 = H' ∧ σ' = [some (.int (b ^ (2 ^ (j + 1)))), some (.int ((e / 2 ^ (j + 1) : Nat) : Int)), some (.int (b ^ (e % 2 ^ (j + 1))))], ?_, ?_⟩
      · rintro σ' H2 ⟨rfl, rfl⟩
        refine ⟨e / 2 ^ (j + 1), ?_, rfl, j + 1, rfl, rfl⟩
        rw [← half_div]
        omega
      · have e2 : b ^ 2 ^ j * b ^ 2 ^ j = b ^ 2 ^ (j + 1) := by
          rw [← Int.pow_add, Nat.pow_succ, Nat.mul_two]
        refine ⟨_, rfl, e / 2 ^ j, rfl, rfl, rfl, _, rfl, ?_⟩
        rcases Nat.mod_two_eq_zero_or_one (e / 2 ^ j) with h2 | h2
        · refine iteFb (decide_eq_false (by rw [h2]; intro z; cases z)) ?_
          refine ⟨_, rfl, _, rfl, _, _, rfl, rfl, wide_mul hj1 hj1 (by decide) (by decide) (by decide), ?_⟩
          refine ⟨_, rfl, e / 2 ^ j, rfl, rfl, rfl, ?_⟩
          rw [half_mod, h2, Nat.mul_zero, Nat.add_zero, ← half_div, ← e2]
          rfl
        · refine iteTb (decide_eq_true (by rw [h2]; rfl)) ?_
          refine ⟨_, rfl, _, rfl, _, _, rfl, rfl, wide_mul hr1 hj1 (by decide) (by decide) (by decide), ?_⟩
          refine ⟨_, rfl, _, rfl, _, _, rfl, rfl, wide_mul hj1 hj1 (by decide) (by decide) (by decide), ?_⟩
          refine ⟨_, rfl, e / 2 ^ j, rfl, rfl, rfl, ?_⟩
          rw [half_mod, h2, Nat.mul_one, Int.pow_add, ← half_div, ← e2]
          rfl
    · refine iteFb (decide_eq_false (by omega)) ?_
      have hlt : e % 2 ^ j = e := by
        refine Nat.mod_eq_of_lt ?_
        have := Nat.lt_div_mul_add (a := e) (b := 2 ^ j) (Nat.pow_pos (by decide))
        have h0 : e / 2 ^ j = 0 := Nat.eq_zero_of_not_pos hz
        rw [h0] at this
        omega
      refine ⟨_, rfl, ?_⟩
      rw [hlt]
      exact k
end
end RS
namespace RS
open PySem L2
def Tl.word : Tl → Str
  | .fin => "end"
  | .times _ => "times"
  | .rep _ => "repeat"
theorem Tl.at0 (tl : Tl) : atI tl.vs 0 = some (.str tl.word) := by cases tl <;> exact atI_nat (j := 0) rfl
theorem wEE : decide (V.str "end" = V.str "end") = true := by decide +kernel
theorem wET : decide (V.str "end" = V.str "times") = false := by decide +kernel
theorem wER : decide (V.str "end" = V.str "repeat") = false := by decide +kernel
theorem wTE : decide (V.str "times" = V.str "end") = false := by decide +kernel
theorem wTT : decide (V.str "times" = V.str "times") = true := by decide +kernel
theorem wTR : decide (V.str "times" = V.str "repeat") = false := by decide +kernel
theorem wRE : decide (V.str "repeat" = V.str "end") = false := by decide +kernel
theorem wRT : decide (V.str "repeat" = V.str "times") = false := by decide +kernel
theorem wRR : decide (V.str "repeat" = V.str "repeat") = true := by decide +kernel
def lastG (gs : List Int) : Int := gs.getD (gs.length - 1) 0
def per (gs : List Int) (m : Nat) : Int := pre gs gs.length - pre gs (gs.length - m)
def off (gs : List Int) (tl : Tl) (n : Nat) : Int :=
  if n ≤ gs.length then pre gs n else match tl with
  | .fin => 0
  | .times b => pre gs gs.length + lastG gs * b * (b ^ (n - gs.length) - 1) / (b - 1)
  | .rep m => pre gs (gs.length - m + (n - gs.length) % m) + (((n - gs.length) / m : Nat) + 1) * per gs m
def gapf (gs : List Int) (tl : Tl) (n : Nat) : Int :=
  if n < gs.length then gs.getD n 0 else match tl with
  | .fin => 0
  | .times b => lastG gs * b ^ (n - gs.length + 1)
  | .rep m => gs.getD (gs.length - m + (n - gs.length) % m) 0
/-- an attempt that is answered -/
def AttOk (gs : List Int) (tl : Tl) (n : Nat) : Prop := match tl with
  | .fin => n ≤ gs.length
  | .times _ => n ≤ 1000
  | .rep _ => True
theorem AttOk.low {gs : List Int} {tl : Tl} (okG : GapsOk gs) {n : Nat} (h : n ≤ gs.length) : AttOk gs tl n := by
  cases tl with
  | fin => exact h
  | times b => have := okG.1; show n ≤ 1000; omega
  | rep m => exact True.intro
theorem getD_get {gs : List Int} {k : Nat} (h : k < gs.length) : gs[k]? = some (gs.getD k 0) := by
  rw [List.getD_eq_getElem?_getD, List.getElem?_eq_getElem h]
  rfl
theorem gap_bd {gs : List Int} (ok : GapsOk gs) {k : Nat} (h : k < gs.length) : 1 ≤ gs.getD k 0 ∧ gs.getD k 0 ≤ 1000000000000 := ok.2 _ (List.mem_of_getElem? (getD_get h))
theorem pre_le {gs : List Int} (ok : GapsOk gs) : ∀ k, k ≤ gs.length → (k : Int) ≤ pre gs k ∧ pre gs k ≤ 1000000000000 * k
  | 0, _ => by rw [pre_zero]; omega
  | k + 1, h => by
    have ih := pre_le ok k (by omega)
    have b := gap_bd ok (k := k) (by omega)
    rw [pre_succ gs (getD_get (by omega))]
    omega
theorem pre_mono {gs : List Int} (ok : GapsOk gs) (i : Nat) : ∀ k, i + k ≤ gs.length → pre gs i + k ≤ pre gs (i + k)
  | 0, _ => by simp
  | k + 1, h => by
    have ih := pre_mono ok i k (by omega)
    have b := gap_bd ok (k := i + k) (by omega)
    rw [show i + (k + 1) = (i + k) + 1 by omega, pre_succ gs (getD_get (by omega))]
    omega
theorem per_bd {gs : List Int} (ok : GapsOk gs) {m : Nat} (h1 : 1 ≤ m) (h2 : m ≤ gs.length) : (m : Int) ≤ per gs m ∧ per gs m ≤ 20000000000000 := by
  have a := pre_mono ok (gs.length - m) m (by omega)
  have b := pre_le ok (gs.length - m) (by omega)
  have c := pre_le ok gs.length (Nat.le_refl _)
  have d := ok.1
  rw [show gs.length - m + m = gs.length by omega] at a
  unfold per
  omega

section
variable {P : Program} {w : World} {K : PySem.W.Frag} {mg : Str → Option Value} {base : Heap}
/-! ### a rule's attributes, read -/
section
variable {C p g t o : Addr} {gs : List Int} {tl : Tl} {H : Hp} {σ : L2.St} {i : Nat}
theorem rdG {Q : VK} (T : Txt K mg C) (R : RuleAt C H p g t o gs tl) (hi : σ[i]? = some (some (.ref p))) (q : Q (.ref g) H) : tFld K (tVar i) "_gaps" σ H Q := by
  obtain ⟨dx, h⟩ := R.ob
  exact ⟨_, hi, p, C, dx, _, _, rfl, h, T.cl, T.nG, flds_g _ _ _, q⟩
theorem rdT {Q : VK} (T : Txt K mg C) (R : RuleAt C H p g t o gs tl) (hi : σ[i]? = some (some (.ref p))) (q : Q (.ref t) H) : tFld K (tVar i) "_tail" σ H Q := by
  obtain ⟨dx, h⟩ := R.ob
  exact ⟨_, hi, p, C, dx, _, _, rfl, h, T.cl, T.nT, flds_t _ _ _, q⟩
theorem rdO {Q : VK} (T : Txt K mg C) (R : RuleAt C H p g t o gs tl) (hi : σ[i]? = some (some (.ref p))) (q : Q (.ref o) H) : tFld K (tVar i) "_offsets" σ H Q := by
  obtain ⟨dx, h⟩ := R.ob
  exact ⟨_, hi, p, C, dx, _, _, rfl, h, T.cl, T.nO, flds_o _ _ _, q⟩
theorem rdOx {te : TE} {Q : VK} (T : Txt K mg C) (R : RuleAt C H p g t o gs tl) (hi : σ[i]? = some (some (.ref p))) (q : te σ H fun y H2 => rIxL K (.ref o) y H2 Q) : tOp (rIxL K) (tFld K (tVar i) "_offsets") te σ H Q := by
  dsimp only [tOp]
  exact rdO T R hi q
theorem rdGx {te : TE} {Q : VK} (T : Txt K mg C) (R : RuleAt C H p g t o gs tl) (hi : σ[i]? = some (some (.ref p))) (q : te σ H fun y H2 => rIxL K (.ref g) y H2 Q) : tOp (rIxL K) (tFld K (tVar i) "_gaps") te σ H Q := by
  dsimp only [tOp]
  exact rdG T R hi q
theorem rdIs {s : Str} {Q : Bool → Hp → Prop} (T : Txt K mg C) (R : RuleAt C H p g t o gs tl) (hi : σ[i]? = some (some (.ref p))) (q : Q (decide (V.str tl.word = V.str s)) H) :
    tTest (tOp rEq (tOp (rIxT K) (tFld K (tVar i) "_tail") (tC (.int 0))) (tC (.str s))) σ H Q := by
  dsimp only [tTest, tOp]
  exact rdT T R hi ⟨t, _, _, _, rfl, rfl, SqT.of R.ht, tl.at0, rfl, _, rfl, q⟩
theorem rdNe {s : Str} {Q : Bool → Hp → Prop} (T : Txt K mg C) (R : RuleAt C H p g t o gs tl) (hi : σ[i]? = some (some (.ref p))) (q : Q (!decide (V.str tl.word = V.str s)) H) :
    tTest (tOp rNe (tOp (rIxT K) (tFld K (tVar i) "_tail") (tC (.int 0))) (tC (.str s))) σ H Q := by
  dsimp only [tTest, tOp]
  exact rdT T R hi ⟨t, _, _, _, rfl, rfl, SqT.of R.ht, tl.at0, rfl, _, rfl, q⟩
theorem rdB {b : Int} {Q : VK} (T : Txt K mg C) (R : RuleAt C H p g t o gs (.times b)) (hi : σ[i]? = some (some (.ref p))) (q : Q (.int b) H) : tOp (rIxT K) (tFld K (tVar i) "_tail") (tC (.int 1)) σ H Q :=
  rdT T R hi ⟨t, _, _, _, rfl, rfl, SqT.of R.ht, atI_nat (j := 1) rfl, q⟩
theorem rdN {m : Nat} {Q : VK} (T : Txt K mg C) (R : RuleAt C H p g t o gs (.rep m)) (hi : σ[i]? = some (some (.ref p))) (q : Q (.int (m : Int)) H) : tOp (rIxT K) (tFld K (tVar i) "_tail") (tC (.int 1)) σ H Q :=
  rdT T R hi ⟨t, _, _, _, rfl, rfl, SqT.of R.ht, atI_nat (j := 1) rfl, q⟩
theorem rdLast {Q : VK} (T : Txt K mg C) (R : RuleAt C H p g t o gs tl) (hi : σ[i]? = some (some (.ref p))) (h0 : 0 < gs.length) (q : Q (.int (lastG gs)) H) :
    tOp (rIxL K) (tFld K (tVar i) "_gaps") (tUn (rU fun i => .int (-i)) (tC (.int 1))) σ H Q :=
  rdG T R hi ⟨_, rfl, g, _, _, _, rfl, rfl, SqL.of R.hg, at_back1 (by rw [List.length_map]; exact h0) (by rw [List.length_map, List.getElem?_map, getD_get (by omega)]; rfl), q⟩
theorem rdLastO {Q : VK} (T : Txt K mg C) (R : RuleAt C H p g t o gs tl) (hi : σ[i]? = some (some (.ref p))) (q : Q (.int (pre gs gs.length)) H) :
    tOp (rIxL K) (tFld K (tVar i) "_offsets") (tUn (rU fun i => .int (-i)) (tC (.int 1))) σ H Q :=
  rdO T R hi ⟨_, rfl, o, _, _, _, rfl, rfl, SqL.of R.ho, at_back1 (by rw [List.length_map, offs_len]; omega) (by rw [List.length_map, offs_len, List.getElem?_map, offs_get gs (by omega)]; rfl), q⟩
end
/-! ### Rule.__init__ -/
def spInit (C : Addr) : Sp := fun vs H Q _ => ∃ (p dx a t : Addr) (gs : List Int) (tl : Tl), vs = [.ref p, .ref a, .ref t] ∧ H p = some (.ins C dx []) ∧ H a = some (.lst (gs.map V.int)) ∧ H t = some (.tup tl.vs) ∧ GapsOk gs ∧ TlOk gs.length tl ∧
  ∀ (g o : Addr) (H' : Hp), H g = none → H o = none → (∀ b u, H b = some u → b ≠ p → H' b = some u) → RuleAt C H' p g t o gs tl → Q .non H'
theorem scInit : FnScope ["self", "gaps", "tail"] ["self", "gaps", "tail"] (defScope s_Rule_ddinitdd) := ⟨rfl, rfl, rfl, by decide +kernel, rfl, by decide +kernel, by decide +kernel⟩
theorem ok_init {f C fA fB fS fi : Addr} {fd fdA fdB fdS fdi : FuncData} (F : Fun K "__init__" "Rule.__init__" s_Rule_ddinitdd f fd) (T : Txt K mg C) (FI : Fun K "is_integer" "is_integer" s_is_integer fi fdi) (bI : Binds K fdi ["value"] []) (mI : mg "is_integer" = some (.ref fi))
    (FA : Fun K "are_gaps" "are_gaps" s_are_gaps fA fdA) (bA : Binds K fdA ["value", "most"] []) (mA : mg "are_gaps" = some (.ref fA)) (FB : Fun K "_is_tail" "_is_tail" s_is_tail fB fdB) (bB : Binds K fdB ["value", "many"] []) (mB : mg "_is_tail" = some (.ref fB))
    (FS : Fun K "sums" "sums" s_sums fS fdS) (bS : Binds K fdS ["gaps"] []) (mS : mg "sums" = some (.ref fS)) : FnOk P w K mg base CX0 3 f fd ["self", "gaps", "tail"] (spInit C) := by
  have GA : FnOk P w K mg base CX0 2 fA fdA ["value", "most"] spAreGaps := ok_areGaps FA T FI bI mI
  have GB : FnOk P w K mg base CX0 2 fB fdB ["value", "many"] spIsTail := ok_isTail FB T FI bI mI
  have GS : FnOk P w K mg base CX0 1 fS fdS ["gaps"] spSums := ok_sums FS
  obtain ⟨t1, m1⟩ := T.mMost
  refine F.ok scInit (fun vs H Q E h => ?_) (fun cdv A outer s H vs Q E hr h => ?_)
  · obtain ⟨p, dx, a, t, gs, tl, rfl, _⟩ := h
    rfl
  · obtain ⟨p, dx, a, t, gs, tl, rfl, hp, ha, ht, okG, okT, k⟩ := h
    refine ⟨_, (pss_cons (ps_if (pt_not (pt_val (pe_call GA hr rfl mA FA.kp bA .nil pass0 (pa_cons (pv 1) (pa_cons (pe_glob (v := .int 20) rfl m1 ⟨_, rfl⟩) pa_nil))))) (pss_one ps_never) pss_nil) (pss_cons (ps_if (pt_not (pt_val (pe_call GB hr rfl mB FB.kp bB .nil pass0 (pa_cons (pv 2) (pa_cons (pe_callB call_len_seq (by rfl) T.len (by decide +kernel) (pa_cons (pv 1) pa_nil)) pa_nil))))) (pss_one ps_never) pss_nil) (pss_cons (ps_fld (pv 0) (pe_callTy call_list_of (by rfl) T.list (by decide +kernel) (pa_cons (pv 1) pa_nil)) rfl) (pss_cons (ps_fld (pv 0) (pe_callTy call_tuple_of (by rfl) T.tuple (by decide +kernel) (pa_cons (pv 2) pa_nil)) rfl) (pss_one (ps_fld (pv 0) (pe_call GS (hr.mono (by decide)) rfl mS FS.kp bS .nil pass0 (pa_cons (pe_fld (pv 0) rfl) pa_nil)) rfl)))))), ?_⟩
    refine ⟨_, rfl, a, gs, 20, rfl, ha, okG, okG.1, fun H1 S1 => ⟨true, rfl, iteF ?_⟩⟩
    refine ⟨_, rfl, _, rfl, a, _, rfl, .inl (SqL.of (S1 _ _ ha)), t, tl, gs.length, ?_, S1 _ _ ht, okT, fun H2 S2 => ⟨true, rfl, iteF ?_⟩⟩
    · rw [List.length_map]
      rfl
    have S := S1.trans S2
    refine ⟨_, rfl, a, _, rfl, .inl (SqL.of (S _ _ ha)), fun g hg2 => ?_⟩
    have hg : H g = none := S.free hg2
    have npg : p ≠ g := ne_of_none hp hg
    have ntg : t ≠ g := ne_of_none ht hg
    have nag : a ≠ g := ne_of_none ha hg
    have npt : t ≠ p := ne_of ht hp (by intro z; cases z)
    have npa : a ≠ p := ne_of ha hp (by intro z; cases z)
    refine ⟨_, rfl, p, C, dx, [], rfl, (by rw [upd_ne npg]; exact S _ _ hp), T.cl, T.nG, (by show 0 < 1000; decide), ?_⟩
    refine ⟨_, rfl, t, _, rfl, .inr ⟨SqT.of (by rw [upd_ne npt, upd_ne ntg]; exact S _ _ ht), ?_⟩⟩
    refine ⟨_, rfl, p, C, dx, _, rfl, upd_same, T.cl, T.nT, (by show 1 < 1000; decide), ?_⟩
    have hgl : (putF "_tail" (.ref t) (putF "_gaps" (.ref g) [])).lookup ("_gaps" : Str) = some (V.ref g) := by
      rw [lookup_putF, if_neg kGT, lookup_putF, if_pos rfl]
    refine ⟨_, rfl, p, C, dx, _, _, rfl, upd_same, T.cl, T.nG, hgl, ?_⟩
    refine ⟨g, gs, rfl, (by rw [upd_ne npg.symm, upd_ne npg.symm, upd_same]), (by have := okG.1; omega), fun o H3 ho S3 ho3 => ?_⟩
    have hp3 := S3 _ _ (upd_same (H := upd (upd H2 g (.lst (gs.map V.int))) p (.ins C dx (putF "_gaps" (.ref g) []))) (a := p) (o := .ins C dx (putF "_tail" (.ref t) (putF "_gaps" (.ref g) []))))
    have npo : p ≠ o := ne_of_none (upd_same (H := upd (upd H2 g (.lst (gs.map V.int))) p (.ins C dx (putF "_gaps" (.ref g) []))) (a := p)) ho
    have ngo : g ≠ o := by
      refine ne_of_none (H := upd (upd (upd H2 g (.lst (gs.map V.int))) p (.ins C dx (putF "_gaps" (.ref g) []))) p (.ins C dx (putF "_tail" (.ref t) (putF "_gaps" (.ref g) [])))) (o := .lst (gs.map V.int)) ?_ ho
      rw [upd_ne npg.symm, upd_ne npg.symm, upd_same]
    have hoH : H o = none := by
      refine S.free ?_
      rw [upd_ne npo.symm, upd_ne npo.symm, upd_ne ngo.symm] at ho
      exact ho
    refine ⟨_, rfl, p, C, dx, _, rfl, hp3, T.cl, T.nO, (by show 2 < 1000; decide), ?_⟩
    refine k g o _ hg hoH (fun b u e nb => ?_) ⟨⟨dx, upd_same⟩, ?_, ?_, ?_, okG, okT⟩
    · rw [upd_ne nb]
      refine S3 _ _ ?_
      rw [upd_ne nb, upd_ne nb, upd_ne (ne_of_none e hg)]
      exact S _ _ e
    · rw [upd_ne npg.symm]
      refine S3 _ _ ?_
      rw [upd_ne npg.symm, upd_ne npg.symm, upd_same]
    · rw [upd_ne npt]
      refine S3 _ _ ?_
      rw [upd_ne npt, upd_ne npt, upd_ne ntg]
      exact S _ _ ht
    · rw [upd_ne npo.symm]
      exact ho3

end
end RS
namespace RS
open PySem L2
section
variable {P : Program} {w : World} {K : PySem.W.Frag} {mg : Str → Option Value} {base : Heap}
/-! ### attempts, _first_repeating, period -/
def attV (gs : List Int) : Tl → V
  | .fin => .int ((gs.length : Int) + 1)
  | _ => .non
def spAtt (C : Addr) : Sp := fun vs H Q _ => ∃ (p g t o : Addr) (gs : List Int) (tl : Tl), vs = [.ref p] ∧ RuleAt C H p g t o gs tl ∧ Q (attV gs tl) H
theorem scSelf_attempts : FnScope ["self"] ["self"] (defScope s_Rule_attempts) := ⟨rfl, rfl, rfl, by decide +kernel, rfl, by decide +kernel, by decide +kernel⟩
theorem ok_attempts {f C : Addr} {fd : FuncData} (F : Fun K "attempts" "Rule.attempts" s_Rule_attempts f fd) (T : Txt K mg C) : FnOk P w K mg base CX0 1 f fd ["self"] (spAtt C) := by
  refine F.ok scSelf_attempts (fun vs H Q E h => ?_) (fun cdv A outer s H vs Q E hr h => ?_)
  · obtain ⟨p, g, t, o, gs, tl, rfl, _⟩ := h
    rfl
  · obtain ⟨p, g, t, o, gs, tl, rfl, R, k⟩ := h
    refine ⟨_, (pss_cons (ps_if (pt_cmpR op_eq (pe_ix ix_tup (pe_fld (pv 0) rfl) pe_int (fun _ _ => rfl)) pe_str (nomark _)) (pss_one (ps_ret (pe_callB call_len_seq (by rfl) T.len (by decide +kernel) (pa_cons (pe_fld (pv 0) rfl) pa_nil)))) pss_nil) (pss_one (ps_ret pe_non))), ?_⟩
    refine rdIs T R rfl ?_
    cases tl with
    | fin =>
      refine iteTb wEE ?_
      refine rdO T R rfl ⟨o, _, rfl, .inl (SqL.of R.ho), ?_⟩
      rw [List.length_map, offs_len]
      exact k
    | times b => exact iteFb wTE k
    | rep m => exact iteFb wRE k
def spFR (C : Addr) : Sp := fun vs H Q _ => ∃ (p g t o : Addr) (gs : List Int) (m : Nat), vs = [.ref p] ∧ RuleAt C H p g t o gs (.rep m) ∧ Q (.int ((gs.length - m : Nat) : Int)) H
theorem scSelf_fr : FnScope ["self"] ["self"] (defScope s_Rule_first_repeating) := ⟨rfl, rfl, rfl, by decide +kernel, rfl, by decide +kernel, by decide +kernel⟩
def frV (gs : List Int) : Tl → V
  | .rep m => .int ((gs.length - m : Nat) : Int)
  | _ => .non
def spFRA (C : Addr) : Sp := fun vs H Q _ => ∃ (p g t o : Addr) (gs : List Int) (tl : Tl), vs = [.ref p] ∧ RuleAt C H p g t o gs tl ∧ Q (frV gs tl) H
theorem ok_frA {f C : Addr} {fd : FuncData} (F : Fun K "first_repeating" "Rule.first_repeating" s_Rule_first_repeating f fd) (T : Txt K mg C) : FnOk P w K mg base CX0 1 f fd ["self"] (spFRA C) := by
  refine F.ok scSelf_fr (fun vs H Q E h => ?_) (fun cdv A outer s H vs Q E hr h => ?_)
  · obtain ⟨p, g, t, o, gs, tl, rfl, _⟩ := h
    rfl
  · obtain ⟨p, g, t, o, gs, tl, rfl, R, k⟩ := h
    refine ⟨_, (pss_cons (ps_if (pt_cmpR op_ne (pe_ix ix_tup (pe_fld (pv 0) rfl) pe_int (fun _ _ => rfl)) pe_str (nomark _)) (pss_one (ps_ret pe_non)) pss_nil) (pss_one (ps_ret (pe_op op_sub (pe_callB call_len_seq (by rfl) T.len (by decide +kernel) (pa_cons (pe_fld (pv 0) rfl) pa_nil)) (pe_ix ix_tup (pe_fld (pv 0) rfl) pe_int (fun _ _ => rfl)))))), ?_⟩
    refine rdNe T R rfl ?_
    cases tl with
    | fin => exact iteTb (congrArg not wER) k
    | times b => exact iteTb (congrArg not wTR) k
    | rep m =>
      refine iteFb (congrArg not wRR) ?_
      refine rdG T R rfl ⟨g, _, rfl, .inl (SqL.of R.hg), rdN T R rfl ⟨_, _, rfl, rfl, ?_⟩⟩
      have e : ((((gs.map V.int).length : Nat) : Int) - (m : Int)) = ((gs.length - m : Nat) : Int) := by
        have := R.okT.2
        rw [List.length_map]
        omega
      have k' : Q (.int ((gs.length - m : Nat) : Int)) H := k
      rw [← e] at k'
      exact k'
theorem ok_fr {f C : Addr} {fd : FuncData} (F : Fun K "first_repeating" "Rule.first_repeating" s_Rule_first_repeating f fd) (T : Txt K mg C) : FnOk P w K mg base CX0 1 f fd ["self"] (spFR C) := by
  refine F.ok scSelf_fr (fun vs H Q E h => ?_) (fun cdv A outer s H vs Q E hr h => ?_)
  · obtain ⟨p, g, t, o, gs, tl, rfl, _⟩ := h
    rfl
  · obtain ⟨p, g, t, o, gs, m, rfl, R, k⟩ := h
    refine ⟨_, (pss_cons (ps_if (pt_cmpR op_ne (pe_ix ix_tup (pe_fld (pv 0) rfl) pe_int (fun _ _ => rfl)) pe_str (nomark _)) (pss_one (ps_ret pe_non)) pss_nil) (pss_one (ps_ret (pe_op op_sub (pe_callB call_len_seq (by rfl) T.len (by decide +kernel) (pa_cons (pe_fld (pv 0) rfl) pa_nil)) (pe_ix ix_tup (pe_fld (pv 0) rfl) pe_int (fun _ _ => rfl)))))), ?_⟩
    refine rdNe T R rfl (iteFb (congrArg not wRR) ?_)
    refine rdG T R rfl ⟨g, _, rfl, .inl (SqL.of R.hg), rdN T R rfl ⟨_, _, rfl, rfl, ?_⟩⟩
    have e : ((((gs.map V.int).length : Nat) : Int) - (m : Int)) = ((gs.length - m : Nat) : Int) := by
      have := R.okT.2
      rw [List.length_map]
      omega
    rw [← e] at k
    exact k
end
end RS
namespace RS
open PySem L2
section
variable {P : Program} {w : World} {K : PySem.W.Frag} {mg : Str → Option Value} {base : Heap}
def perV (gs : List Int) : Tl → V
  | .rep m => .int (per gs m)
  | _ => .non
def spPer (C : Addr) : Sp := fun vs H Q _ => ∃ (p g t o : Addr) (gs : List Int) (tl : Tl), vs = [.ref p] ∧ RuleAt C H p g t o gs tl ∧ Q (perV gs tl) H
theorem scSelf_per : FnScope ["self"] ["self"] (defScope s_Rule_period) := ⟨rfl, rfl, rfl, by decide +kernel, rfl, by decide +kernel, by decide +kernel⟩
theorem ok_per {f C fR : Addr} {fd fdR : FuncData} (F : Fun K "period" "Rule.period" s_Rule_period f fd) (T : Txt K mg C) (FR : Fun K "first_repeating" "Rule.first_repeating" s_Rule_first_repeating fR fdR) (bR : Binds K fdR ["self"] []) (mR : Meth K C "first_repeating" fR) : FnOk P w K mg base CX0 2 f fd ["self"] (spPer C) := by
  have GR : FnOk P w K mg base CX0 1 fR fdR ["self"] (spFR C) := ok_fr FR T
  refine F.ok scSelf_per (fun vs H Q E h => ?_) (fun cdv A outer s H vs Q E hr h => ?_)
  · obtain ⟨p, g, t, o, gs, tl, rfl, _⟩ := h
    rfl
  · obtain ⟨p, g, t, o, gs, tl, rfl, R, k⟩ := h
    refine ⟨_, (pss_cons (ps_if (pt_cmpR op_ne (pe_ix ix_tup (pe_fld (pv 0) rfl) pe_int (fun _ _ => rfl)) pe_str (nomark _)) (pss_one (ps_ret pe_non)) pss_nil) (pss_one (ps_ret (pe_op op_sub (pe_ix ix_list (pe_fld (pv 0) rfl) (pe_un un_neg pe_int) (fun _ _ => rfl)) (pe_ix ix_list (pe_fld (pv 0) rfl) (pe_meth0 (pv 0) T.cl mR GR hr bR .nil pass0) (fun _ _ => rfl)))))), ?_⟩
    refine rdNe T R rfl ?_
    cases tl with
    | fin => exact iteTb (congrArg not wER) k
    | times b => exact iteTb (congrArg not wTR) k
    | rep m =>
      refine iteFb (congrArg not wRR) ?_
      refine rdLastO T R rfl (rdO T R rfl ?_)
      obtain ⟨dx, hob⟩ := R.ob
      refine ⟨_, rfl, p, dx, _, rfl, hob, flds_no _ _ _ (by decide +kernel) (by decide +kernel) (by decide +kernel), p, g, t, o, gs, m, rfl, R, ?_⟩
      exact ⟨o, _, _, _, rfl, rfl, SqL.of R.ho, at_map (offs_get gs (by omega)), _, _, rfl, rfl, k⟩
end
end RS
namespace RS
open PySem L2
section
variable {P : Program} {w : World} {K : PySem.W.Frag} {mg : Str → Option Value} {base : Heap}
/-! ### Rule.gaps, tail, least_gap -/
def spGaps (C : Addr) : Sp := fun vs H Q _ => ∃ (p g t o : Addr) (gs : List Int) (tl : Tl), vs = [.ref p] ∧ RuleAt C H p g t o gs tl ∧ ∀ l, H l = none → Q (.ref l) (upd H l (.lst (gs.map V.int)))
theorem scGaps : FnScope ["self"] ["self"] (defScope s_Rule_gaps) := ⟨rfl, rfl, rfl, by decide +kernel, rfl, by decide +kernel, by decide +kernel⟩
theorem ok_gaps {f C : Addr} {fd : FuncData} (F : Fun K "gaps" "Rule.gaps" s_Rule_gaps f fd) (T : Txt K mg C) : FnOk P w K mg base CX0 1 f fd ["self"] (spGaps C) := by
  refine F.ok scGaps (fun vs H Q E h => ?_) (fun cdv A outer s H vs Q E hr h => ?_)
  · obtain ⟨p, g, t, o, gs, tl, rfl, _⟩ := h
    rfl
  · obtain ⟨p, g, t, o, gs, tl, rfl, R, k⟩ := h
    refine ⟨_, (pss_one (ps_ret (pe_callTy call_list_of (by rfl) T.list (by decide +kernel) (pa_cons (pe_fld (pv 0) rfl) pa_nil)))), ?_⟩
    exact rdG T R rfl ⟨g, _, rfl, .inl (SqL.of R.hg), k⟩
def spTail (C : Addr) : Sp := fun vs H Q _ => ∃ (p g t o : Addr) (gs : List Int) (tl : Tl), vs = [.ref p] ∧ RuleAt C H p g t o gs tl ∧ Q (.ref t) H
theorem scTail : FnScope ["self"] ["self"] (defScope s_Rule_tail) := ⟨rfl, rfl, rfl, by decide +kernel, rfl, by decide +kernel, by decide +kernel⟩
theorem ok_tail {f C : Addr} {fd : FuncData} (F : Fun K "tail" "Rule.tail" s_Rule_tail f fd) (T : Txt K mg C) : FnOk P w K mg base CX0 1 f fd ["self"] (spTail C) := by
  refine F.ok scTail (fun vs H Q E h => ?_) (fun cdv A outer s H vs Q E hr h => ?_)
  · obtain ⟨p, g, t, o, gs, tl, rfl, _⟩ := h
    rfl
  · obtain ⟨p, g, t, o, gs, tl, rfl, R, k⟩ := h
    refine ⟨_, (pss_one (ps_ret (pe_fld (pv 0) rfl))), ?_⟩
    exact rdT T R rfl k
end
end RS
namespace RS
open PySem L2
section
variable {P : Program} {w : World} {K : PySem.W.Frag} {mg : Str → Option Value} {base : Heap}
theorem end_cmp {p : Prop} [Decidable p] {A B : Prop} (hp : ¬ p) (h : B) : if decide p = true then A else B := iteFb (decide_eq_false hp) h
/-! ### _check_attempt -/
def spCheck (C : Addr) : Sp := fun vs H Q _ => ∃ (p g t o : Addr) (gs : List Int) (tl : Tl) (n : Nat), vs = [.ref p, .int (n : Int)] ∧ RuleAt C H p g t o gs tl ∧ AttOk gs tl n ∧ Q .non H
theorem scCheck : FnScope ["self", "attempt"] ["self", "attempt"] (defScope s_Rule_check_attempt) := ⟨rfl, rfl, rfl, by decide +kernel, rfl, by decide +kernel, by decide +kernel⟩
theorem ok_check {f C fi : Addr} {fd fdi : FuncData} (F : Fun K "_check_attempt" "Rule._check_attempt" s_Rule_check_attempt f fd) (T : Txt K mg C) (FI : Fun K "is_integer" "is_integer" s_is_integer fi fdi) (bI : Binds K fdi ["value"] []) (mI : mg "is_integer" = some (.ref fi)) :
    FnOk P w K mg base CX0 2 f fd ["self", "attempt"] (spCheck C) := by
  have GI : FnOk P w K mg base CX0 1 fi fdi ["value"] spIsInt := ok_isInt FI T
  obtain ⟨t1, m1⟩ := T.mLast
  refine F.ok scCheck (fun vs H Q E h => ?_) (fun cdv A outer s H vs Q E hr h => ?_)
  · obtain ⟨p, g, t, o, gs, tl, n, rfl, _⟩ := h
    rfl
  · obtain ⟨p, g, t, o, gs, tl, n, rfl, R, ok, k⟩ := h
    refine ⟨_, (pss_cons (ps_if (PW.pt (pw_or (pt_not (pt_val (pe_call GI hr rfl mI FI.kp bI .nil pass0 (pa_cons (pv 1) pa_nil)))) (pw_or1 (pt_cmpR op_lt (pv 1) pe_int (nomark _))))) (pss_one ps_never) pss_nil) (pss_cons (ps_if (PW.pt (pw_and (pt_cmpR op_eq (pe_ix ix_tup (pe_fld (pv 0) rfl) pe_int (fun _ _ => rfl)) pe_str (nomark _)) (pw_and1 (pt_cmpR op_ge (pv 1) (pe_callB call_len_seq (by rfl) T.len (by decide +kernel) (pa_cons (pe_fld (pv 0) rfl) pa_nil)) (nomark _))))) (pss_one ps_never) pss_nil) (pss_one (ps_if (PW.pt (pw_and (pt_cmpR op_eq (pe_ix ix_tup (pe_fld (pv 0) rfl) pe_int (fun _ _ => rfl)) pe_str (nomark _)) (pw_and1 (pt_cmpR op_gt (pv 1) (pe_glob (v := .int 1000) rfl m1 ⟨_, rfl⟩) (nomark _))))) (pss_one ps_never) pss_nil)))), ?_⟩
    refine ⟨_, rfl, _, rfl, true, rfl, iteF ⟨_, rfl, _, _, rfl, rfl, _, rfl, iteFb (decide_eq_false (by omega)) ?_⟩⟩
    refine rdIs T R rfl ?_
    cases tl with
    | fin =>
      refine iteTb wEE ?_
      refine ⟨_, rfl, rdO T R rfl ⟨o, _, rfl, .inl (SqL.of R.ho), _, _, rfl, rfl, _, rfl, iteFb (decide_eq_false ?_) ?_⟩⟩
      · rw [List.length_map, offs_len]
        have : n ≤ gs.length := ok
        omega
      · exact rdIs T R rfl (iteFb wET (iteF k))
    | times b =>
      refine iteFb wTE ?_
      refine iteF ?_
      refine rdIs T R rfl (iteTb wTT ⟨_, rfl, _, _, rfl, rfl, _, rfl, iteFb (decide_eq_false ?_) k⟩)
      have : n ≤ 1000 := ok
      omega
    | rep m =>
      refine iteFb wRE ?_
      refine iteF ?_
      exact rdIs T R rfl (iteFb wRT (iteF k))
/-! ### _offset_of -/
def spOff (C : Addr) : Sp := fun vs H Q _ => ∃ (p g t o : Addr) (gs : List Int) (tl : Tl) (n : Nat), vs = [.ref p, .int (n : Int)] ∧ RuleAt C H p g t o gs tl ∧ AttOk gs tl n ∧ ∀ H', Same H H' → Q (.int (off gs tl n)) H'
theorem scOff : FnScope ["self", "attempt", "further", "factor", "periods", "rest"] ["self", "attempt"] (defScope s_Rule_offset_of) := ⟨rfl, rfl, rfl, by decide +kernel, rfl, by decide +kernel, by decide +kernel⟩
theorem ok_off {f C fR fP fW : Addr} {fd fdR fdP fdW : FuncData} (F : Fun K "_offset_of" "Rule._offset_of" s_Rule_offset_of f fd) (T : Txt K mg C) (FR : Fun K "first_repeating" "Rule.first_repeating" s_Rule_first_repeating fR fdR) (bR : Binds K fdR ["self"] []) (mR : Meth K C "first_repeating" fR)
    (FP : Fun K "period" "Rule.period" s_Rule_period fP fdP) (bP : Binds K fdP ["self"] []) (mP : Meth K C "period" fP) (FW : Fun K "_power" "_power" s_power fW fdW) (bW : Binds K fdW ["base", "exponent"] []) (mW : mg "_power" = some (.ref fW)) :
    FnOk P w K mg base CX0 3 f fd ["self", "attempt"] (spOff C) := by
  have GR : FnOk P w K mg base CX0 1 fR fdR ["self"] (spFR C) := ok_fr FR T
  have GP : FnOk P w K mg base CX0 2 fP fdP ["self"] (spPer C) := ok_per FP T FR bR mR
  have GW : FnOk P w K mg base CX0 1 fW fdW ["base", "exponent"] spPower := ok_power FW
  refine F.ok scOff (fun vs H Q E h => ?_) (fun cdv A outer s H vs Q E hr h => ?_)
  · obtain ⟨p, g, t, o, gs, tl, n, rfl, _⟩ := h
    rfl
  · obtain ⟨p, g, t, o, gs, tl, n, rfl, R, ok, k⟩ := h
    have hr1 := hr.mono (show 1 ≤ 2 by decide)
    refine ⟨_, (pss_cons (ps_if (pt_cmpR op_lt (pv 1) (pe_callB call_len_seq (by rfl) T.len (by decide +kernel) (pa_cons (pe_fld (pv 0) rfl) pa_nil)) (nomark _)) (pss_one (ps_ret (pe_ix ix_list (pe_fld (pv 0) rfl) (pv 1) (fun _ _ => rfl)))) pss_nil) (pss_cons (ps_set (i := 2) scOff.nd rfl (Or.inl rfl) (pe_op op_sub (pv 1) (pe_callB call_len_seq (by rfl) T.len (by decide +kernel) (pa_cons (pe_fld (pv 0) rfl) pa_nil)))) (pss_cons (ps_if (pt_cmpR op_eq (pe_ix ix_tup (pe_fld (pv 0) rfl) pe_int (fun _ _ => rfl)) pe_str (nomark _)) (pss_cons (ps_set (i := 3) scOff.nd rfl (Or.inl rfl) (pe_ix ix_tup (pe_fld (pv 0) rfl) pe_int (fun _ _ => rfl))) (pss_one (ps_ret (pe_op op_add (pe_ix ix_list (pe_fld (pv 0) rfl) (pe_un un_neg pe_int) (fun _ _ => rfl)) (pe_op op_fdiv (pe_op op_mul (pe_op op_mul (pe_ix ix_list (pe_fld (pv 0) rfl) (pe_un un_neg pe_int) (fun _ _ => rfl)) (pv 3)) (pe_op op_sub (pe_call GW hr1 rfl mW FW.kp bW .nil pass0 (pa_cons (pv 3) (pa_cons (pv 2) pa_nil))) pe_int)) (pe_op op_sub (pv 3) pe_int)))))) pss_nil) (pss_cons (ps_asg (pe_callB call_divmod (by rfl) T.divmod (by decide +kernel) (pa_cons (pv 2) (pa_cons (pe_ix ix_tup (pe_fld (pv 0) rfl) pe_int (fun _ _ => rfl)) pa_nil))) (pg_tup rfl (pgs_cons (pg_name (i := 4) scOff.nd rfl (Or.inl rfl)) (pgs_cons (pg_name (i := 5) scOff.nd rfl (Or.inl rfl)) pgs_nil)))) (pss_one (ps_ret (pe_op op_add (pe_ix ix_list (pe_fld (pv 0) rfl) (pe_op op_add (pe_meth0 (pv 0) T.cl mR GR hr1 bR .nil pass0) (pv 5)) (fun _ _ => rfl)) (pe_op op_mul (pe_op op_add (pv 4) pe_int) (pe_meth0 (pv 0) T.cl mP GP hr bP .nil pass0))))))))), ?_⟩
    refine ⟨_, rfl, rdO T R rfl ⟨o, _, rfl, .inl (SqL.of R.ho), _, _, rfl, rfl, _, rfl, ?_⟩⟩
    rw [List.length_map, offs_len]
    by_cases hn : n ≤ gs.length
    · refine iteTb (decide_eq_true (by omega)) ?_
      refine rdOx T R rfl ⟨_, rfl, o, _, _, _, rfl, rfl, SqL.of R.ho, at_map (offs_get gs hn), ?_⟩
      have e : off gs tl n = pre gs n := if_pos hn
      rw [← e]
      exact k H (Same.refl H)
    · refine end_cmp (by omega) ?_
      refine ⟨_, rfl, ?_⟩
      refine rdG T R rfl ⟨g, _, rfl, .inl (SqL.of R.hg), _, _, rfl, rfl, ?_⟩
      have ef : ((n : Int) - (((gs.map V.int).length : Nat) : Int)) = ((n - gs.length : Nat) : Int) := by
        rw [List.length_map]
        omega
      show tSeq _ _ _ (List.set _ 2 (some (V.int ((n : Int) - (((gs.map V.int).length : Nat) : Int))))) H
      rw [ef]
      refine rdIs T R rfl ?_
      cases tl with
      | fin => exact absurd ok hn
      | times b =>
        have hl := R.okT.1
        have hb0 := R.okT.2.1
        have hb1 := R.okT.2.2
        have hn1 : n ≤ 1000 := ok
        have hg := gap_bd R.okG (k := gs.length - 1) (by omega)
        have hg : 1 ≤ lastG gs ∧ lastG gs ≤ 1000000000000 := hg
        have hgb1 : lastG gs * b ≤ 1000000000000 * 1000 := Int.mul_le_mul hg.2 hb1 (by omega) (by omega)
        have hgb0 : 0 ≤ lastG gs * b := Int.mul_nonneg (by omega) (by omega)
        refine iteTb wTT ?_
        refine rdB T R rfl ?_
        refine rdLastO T R rfl ?_
        refine rdLast T R rfl hl ⟨_, rfl, _, _, rfl, rfl, .inl ⟨by omega, by omega⟩, ?_⟩
        refine ⟨_, rfl, _, rfl, b, n - gs.length, rfl, by omega, by omega, by omega, _, _, rfl, rfl, _, _, rfl, rfl, .inl ⟨by omega, by omega⟩, ?_⟩
        refine ⟨_, rfl, _, _, rfl, rfl, _, _, rfl, rfl, ⟨by omega, by omega⟩, _, _, rfl, rfl, ?_⟩
        have e : off gs (.times b) n = pre gs gs.length + lastG gs * b * (b ^ (n - gs.length) - 1) / (b - 1) := if_neg hn
        rw [e] at k
        exact k H (Same.refl H)
      | rep m =>
        have hm0 := R.okT.1
        have hm1 := R.okT.2
        have hp := per_bd R.okG hm0 hm1
        refine iteFb wRT ?_
        refine ⟨_, rfl, ?_⟩
        refine rdN T R rfl ⟨_, _, rfl, ⟨by omega, by have := R.okG.1; omega⟩, fun q hq => ?_⟩
        have S : Same H (upd H q (.tup [.int (((n - gs.length : Nat) : Int) / (m : Int)), .int (((n - gs.length : Nat) : Int) % (m : Int))])) := same_new hq
        have R2 := R.mono S
        refine ⟨q, _, rfl, SqT.of upd_same, rfl, _, _, rfl, _, _, rfl, rfl, ?_⟩
        obtain ⟨dx, hob⟩ := R2.ob
        have e1 : (((n - gs.length : Nat) : Int) % (m : Int)) = (((n - gs.length) % m : Nat) : Int) := rfl
        have e2 : (((n - gs.length : Nat) : Int) / (m : Int)) = (((n - gs.length) / m : Nat) : Int) := rfl
        have hr0 : (n - gs.length) % m < m := Nat.mod_lt _ (by omega)
        have nF : (flds g t o).lookup ("first_repeating" : Str) = none := flds_no _ _ _ (by decide +kernel) (by decide +kernel) (by decide +kernel)
        have nP : (flds g t o).lookup ("period" : Str) = none := flds_no _ _ _ (by decide +kernel) (by decide +kernel) (by decide +kernel)
        refine rdOx T R2 rfl ⟨_, rfl, p, dx, _, rfl, hob, nF, p, g, t, o, gs, m, rfl, R2, _, rfl, _, _, rfl, rfl, ?_⟩
        refine ⟨o, _, _, .int (pre gs (gs.length - m + (n - gs.length) % m)), rfl, rfl, SqL.of R2.ho, ?_, ?_⟩
        · rw [e1, ← Int.natCast_add]
          exact at_map (offs_get gs (by omega))
        · refine ⟨_, rfl, _, _, rfl, rfl, _, rfl, p, dx, _, rfl, hob, nP, p, g, t, o, gs, .rep m, rfl, R2, ?_⟩
          refine ⟨_, _, rfl, rfl, .inr ⟨by omega, by omega⟩, _, _, rfl, rfl, ?_⟩
          have e : off gs (.rep m) n = pre gs (gs.length - m + (n - gs.length) % m) + (((n - gs.length) / m : Nat) + 1) * per gs m := if_neg hn
          rw [e] at k
          exact k _ S
/-! ### offset -/
theorem scOffset : FnScope ["self", "attempt"] ["self", "attempt"] (defScope s_Rule_offset) := ⟨rfl, rfl, rfl, by decide +kernel, rfl, by decide +kernel, by decide +kernel⟩
theorem ok_offset {f C fC fO : Addr} {fd fdC fdO : FuncData} (F : Fun K "offset" "Rule.offset" s_Rule_offset f fd) (T : Txt K mg C) (mC : Meth K C "_check_attempt" fC) (bC : Binds K fdC ["self", "attempt"] []) (mO : Meth K C "_offset_of" fO) (bO : Binds K fdO ["self", "attempt"] [])
    (GC : FnOk P w K mg base CX0 2 fC fdC ["self", "attempt"] (spCheck C)) (GO : FnOk P w K mg base CX0 3 fO fdO ["self", "attempt"] (spOff C)) : FnOk P w K mg base CX0 4 f fd ["self", "attempt"] (spOff C) := by
  refine F.ok scOffset (fun vs H Q E h => ?_) (fun cdv A outer s H vs Q E hr h => ?_)
  · obtain ⟨p, g, t, o, gs, tl, n, rfl, _⟩ := h
    rfl
  · obtain ⟨p, g, t, o, gs, tl, n, rfl, R, ok, k⟩ := h
    refine ⟨_, (pss_cons (ps_expr (pe_meth (pv 0) T.cl mC GC (hr.mono (by decide)) bC .nil pass0 (pa_cons (pv 1) pa_nil))) (pss_one (ps_ret (pe_meth (pv 0) T.cl mO GO hr bO .nil pass0 (pa_cons (pv 1) pa_nil))))), ?_⟩
    obtain ⟨dx, hob⟩ := R.ob
    refine ⟨_, rfl, p, dx, _, rfl, hob, flds_no _ _ _ (by decide +kernel) (by decide +kernel) (by decide +kernel), _, rfl, p, g, t, o, gs, tl, n, rfl, R, ok, ?_⟩
    exact ⟨_, rfl, p, dx, _, rfl, hob, flds_no _ _ _ (by decide +kernel) (by decide +kernel) (by decide +kernel), _, rfl, p, g, t, o, gs, tl, n, rfl, R, ok, k⟩
/-! ### gap -/
def spGap (C : Addr) : Sp := fun vs H Q _ => ∃ (p g t o : Addr) (gs : List Int) (tl : Tl) (n : Nat), vs = [.ref p, .int (n : Int)] ∧ RuleAt C H p g t o gs tl ∧ AttOk gs tl n ∧ (tl = .fin → n < gs.length) ∧ Q (.int (gapf gs tl n)) H
theorem scGap : FnScope ["self", "attempt", "further"] ["self", "attempt"] (defScope s_Rule_gap) := ⟨rfl, rfl, rfl, by decide +kernel, rfl, by decide +kernel, by decide +kernel⟩
theorem ok_gap {f C fC fA fR fW : Addr} {fd fdC fdA fdR fdW : FuncData} (F : Fun K "gap" "Rule.gap" s_Rule_gap f fd) (T : Txt K mg C) (mC : Meth K C "_check_attempt" fC) (bC : Binds K fdC ["self", "attempt"] [])
    (GC : FnOk P w K mg base CX0 2 fC fdC ["self", "attempt"] (spCheck C)) (FA : Fun K "attempts" "Rule.attempts" s_Rule_attempts fA fdA) (bA : Binds K fdA ["self"] []) (mA : Meth K C "attempts" fA)
    (FR : Fun K "first_repeating" "Rule.first_repeating" s_Rule_first_repeating fR fdR) (bR : Binds K fdR ["self"] []) (mR : Meth K C "first_repeating" fR)
    (FW : Fun K "_power" "_power" s_power fW fdW) (bW : Binds K fdW ["base", "exponent"] []) (mW : mg "_power" = some (.ref fW)) : FnOk P w K mg base CX0 3 f fd ["self", "attempt"] (spGap C) := by
  have GA : FnOk P w K mg base CX0 1 fA fdA ["self"] (spAtt C) := ok_attempts FA T
  have GR : FnOk P w K mg base CX0 1 fR fdR ["self"] (spFR C) := ok_fr FR T
  have GW : FnOk P w K mg base CX0 1 fW fdW ["base", "exponent"] spPower := ok_power FW
  refine F.ok scGap (fun vs H Q E h => ?_) (fun cdv A outer s H vs Q E hr h => ?_)
  · obtain ⟨p, g, t, o, gs, tl, n, rfl, _⟩ := h
    rfl
  · obtain ⟨p, g, t, o, gs, tl, n, rfl, R, ok, okf, k⟩ := h
    have hr1 := hr.mono (show 1 ≤ 2 by decide)
    refine ⟨_, (pss_cons (ps_expr (pe_meth (pv 0) T.cl mC GC hr bC .nil pass0 (pa_cons (pv 1) pa_nil))) (pss_cons (ps_if (pt_cmpR op_eq (pe_op op_add (pv 1) pe_int) (pe_meth0 (pv 0) T.cl mA GA hr1 bA .nil pass0) (nomark _)) (pss_one ps_never) pss_nil) (pss_cons (ps_if (pt_cmpR op_lt (pv 1) (pe_callB call_len_seq (by rfl) T.len (by decide +kernel) (pa_cons (pe_fld (pv 0) rfl) pa_nil)) (nomark _)) (pss_one (ps_ret (pe_ix ix_list (pe_fld (pv 0) rfl) (pv 1) (fun _ _ => rfl)))) pss_nil) (pss_cons (ps_set (i := 2) scGap.nd rfl (Or.inl rfl) (pe_op op_sub (pv 1) (pe_callB call_len_seq (by rfl) T.len (by decide +kernel) (pa_cons (pe_fld (pv 0) rfl) pa_nil)))) (pss_cons (ps_if (pt_cmpR op_eq (pe_ix ix_tup (pe_fld (pv 0) rfl) pe_int (fun _ _ => rfl)) pe_str (nomark _)) (pss_one (ps_ret (pe_op op_mul (pe_ix ix_list (pe_fld (pv 0) rfl) (pe_un un_neg pe_int) (fun _ _ => rfl)) (pe_call GW hr1 rfl mW FW.kp bW .nil pass0 (pa_cons (pe_ix ix_tup (pe_fld (pv 0) rfl) pe_int (fun _ _ => rfl)) (pa_cons (pe_op op_add (pv 2) pe_int) pa_nil)))))) pss_nil) (pss_one (ps_ret (pe_ix ix_list (pe_fld (pv 0) rfl) (pe_op op_add (pe_meth0 (pv 0) T.cl mR GR hr1 bR .nil pass0) (pe_op op_mod (pv 2) (pe_ix ix_tup (pe_fld (pv 0) rfl) pe_int (fun _ _ => rfl)))) (fun _ _ => rfl))))))))), ?_⟩
    obtain ⟨dx, hob⟩ := R.ob
    have nF : (flds g t o).lookup ("first_repeating" : Str) = none := flds_no _ _ _ (by decide +kernel) (by decide +kernel) (by decide +kernel)
    have nA : (flds g t o).lookup ("attempts" : Str) = none := flds_no _ _ _ (by decide +kernel) (by decide +kernel) (by decide +kernel)
    refine ⟨_, rfl, p, dx, _, rfl, hob, flds_no _ _ _ (by decide +kernel) (by decide +kernel) (by decide +kernel), _, rfl, p, g, t, o, gs, tl, n, rfl, R, ok, ?_⟩
    refine ⟨_, rfl, _, _, rfl, rfl, _, rfl, p, dx, _, rfl, hob, nA, p, g, t, o, gs, tl, rfl, R, ?_⟩
    have hsc : scal (V.int ((n : Int) + 1)) (attV gs tl) = true := by cases tl <;> rfl
    have hne : decide (V.int ((n : Int) + 1) = attV gs tl) = false := by
      cases tl with
      | fin =>
        have := okf rfl
        refine decide_eq_false fun e => ?_
        have := V.int.inj e
        omega
      | times b => exact decide_eq_false fun e => by cases e
      | rep m => exact decide_eq_false fun e => by cases e
    refine ⟨hsc, _, rfl, iteFb hne ?_⟩
    refine ⟨_, rfl, rdG T R rfl ⟨g, _, rfl, .inl (SqL.of R.hg), _, _, rfl, rfl, _, rfl, ?_⟩⟩
    rw [List.length_map]
    by_cases hn : n < gs.length
    · refine iteTb (decide_eq_true (by omega)) ?_
      refine rdGx T R rfl ⟨_, rfl, g, _, _, _, rfl, rfl, SqL.of R.hg, at_map (getD_get hn), ?_⟩
      have e : gapf gs tl n = gs.getD n 0 := if_pos hn
      rw [← e]
      exact k
    · refine end_cmp (by omega) ?_
      refine ⟨_, rfl, ?_⟩
      refine rdG T R rfl ⟨g, _, rfl, .inl (SqL.of R.hg), _, _, rfl, rfl, ?_⟩
      have ef : ((n : Int) - (((gs.map V.int).length : Nat) : Int)) = ((n - gs.length : Nat) : Int) := by
        rw [List.length_map]
        omega
      show tSeq _ _ _ (List.set _ 2 (some (V.int ((n : Int) - (((gs.map V.int).length : Nat) : Int))))) H
      rw [ef]
      refine rdIs T R rfl ?_
      cases tl with
      | fin => exact absurd (okf rfl) hn
      | times b =>
        have hl := R.okT.1
        have hb0 := R.okT.2.1
        have hb1 := R.okT.2.2
        have hn1 : n ≤ 1000 := ok
        have hg := gap_bd R.okG (k := gs.length - 1) (by omega)
        have hg : 1 ≤ lastG gs ∧ lastG gs ≤ 1000000000000 := hg
        refine iteTb wTT ?_
        refine rdLast T R rfl hl ?_
        refine rdB T R rfl ⟨_, rfl, _, _, rfl, rfl, b, n - gs.length + 1, ?_, by omega, by omega, by omega, _, _, rfl, rfl, .inl ⟨by omega, by omega⟩, ?_⟩
        · rfl
        · have e : gapf gs (.times b) n = lastG gs * b ^ (n - gs.length + 1) := if_neg hn
          rw [e] at k
          exact k
      | rep m =>
        have hm0 := R.okT.1
        have hm1 := R.okT.2
        have hr0 : (n - gs.length) % m < m := Nat.mod_lt _ (by omega)
        refine iteFb wRT ?_
        refine rdGx T R rfl ⟨_, rfl, p, dx, _, rfl, hob, nF, p, g, t, o, gs, m, rfl, R, _, rfl, ?_⟩
        refine rdN T R rfl ⟨_, _, rfl, rfl, by omega, _, _, rfl, rfl, ?_⟩
        refine ⟨g, _, _, .int (gs.getD (gs.length - m + (n - gs.length) % m) 0), rfl, rfl, SqL.of R.hg, ?_, ?_⟩
        · rw [← Int.natCast_emod, ← Int.natCast_add]
          exact at_map (getD_get (by omega))
        · have e : gapf gs (.rep m) n = gs.getD (gs.length - m + (n - gs.length) % m) 0 := if_neg hn
          rw [e] at k
          exact k
end
end RS
namespace RS
open PySem L2
/-! ### the law's own source of numbers -/
/-- all but what stands at a is as it was -/
def Kx (a : Addr) (H H' : Hp) : Prop := ∀ c u, c ≠ a → H c = some u → H' c = some u
theorem Kx.refl (a : Addr) (H : Hp) : Kx a H H := fun _ _ _ h => h
theorem Kx.trans {a : Addr} {H H1 H2 : Hp} (x : Kx a H H1) (y : Kx a H1 H2) : Kx a H H2 := fun c u n h => y c u n (x c u n h)
theorem Kx.of {a : Addr} {H H' : Hp} (x : Same H H') : Kx a H H' := fun c u _ h => x c u h
theorem Kx.upd {a : Addr} {H : Hp} {o : HO} : Kx a H (upd H a o) := fun c u n h => by
  rw [upd_ne n]
  exact h
theorem Kx.free {a : Addr} {H H' : Hp} (x : Kx a H H') {p : Addr} (n : p ≠ a) (h : H' p = none) : H p = none := by
  cases q : H p with
  | none => rfl
  | some o =>
    rw [x p o n q] at h
    cases h
structure Src (H : Hp) (a : Addr) (b : Nat) : Prop where
  ex : ∃ s0 s1 s2 : Int, H a = some (.lst [.int s0, .int s1, .int s2]) ∧ 0 ≤ s0 ∧ 0 ≤ s1 ∧ s1 < 2147483647 ∧ 0 ≤ s2 ∧ s2 ≤ b
theorem Src.mono {H H' : Hp} {a : Addr} {b : Nat} (h : Src H a b) (e : Same H H') : Src H' a b := by
  obtain ⟨s0, s1, s2, h1, h2⟩ := h.ex
  exact ⟨s0, s1, s2, e _ _ h1, h2⟩
theorem Src.le {H : Hp} {a : Addr} {b c : Nat} (h : Src H a b) (e : b ≤ c) : Src H a c := by
  obtain ⟨s0, s1, s2, h1, h2, h3, h4, h5, h6⟩ := h.ex
  exact ⟨s0, s1, s2, h1, h2, h3, h4, h5, by omega⟩
theorem Src.new {H : Hp} {a : Addr} {b : Nat} (h : Src H a b) {p : Addr} (hp : H p = none) : a ≠ p := by
  obtain ⟨s0, s1, s2, h1, _⟩ := h.ex
  exact ne_of_none h1 hp
section
variable {P : Program} {w : World} {K : PySem.W.Frag} {mg : Str → Option Value} {base : Heap}
def spSrcOf : Sp := fun vs H Q _ => ∃ c : Int, vs = [.int c] ∧ ∀ a H', H a = none → Same H H' → Src H' a 0 → Q (.ref a) H'
theorem scSrcOf : FnScope ["_law_cell"] ["_law_cell"] (defScope s_law_source_of) := ⟨rfl, rfl, rfl, by decide +kernel, rfl, by decide +kernel, by decide +kernel⟩
theorem ok_srcOf {f C : Addr} {fd : FuncData} (F : Fun K "_law_source_of" "_law_source_of" s_law_source_of f fd) (T : Txt K mg C) : FnOk P w K mg base CX0 1 f fd ["_law_cell"] spSrcOf := by
  refine F.ok scSrcOf (fun vs H Q E h => ?_) (fun cdv A outer s H vs Q E hr h => ?_)
  · obtain ⟨c, rfl, _⟩ := h
    rfl
  · obtain ⟨c, rfl, k⟩ := h
    refine ⟨_, (pss_one (ps_ret (pe_lst (pa_cons (pe_op op_mul (pv 0) (pe_callTy call_int1 (by rfl) T.int (by decide +kernel) (pa_cons (pe_cmpR op_ge (pv 0) (pe_op op_pow pe_int pe_int) (nomark _)) pa_nil))) (pa_cons (pe_op op_mod (pe_callTy call_int1 (by rfl) T.int (by decide +kernel) (pa_cons (pv 0) pa_nil)) pe_int) (pa_cons pe_int pa_nil)))))), ?_⟩
    refine ⟨_, rfl, _, rfl, _, _, rfl, rfl, ⟨by decide, by decide, by decide⟩, _, _, rfl, rfl, .inr ⟨_, rfl, ?_⟩⟩
    refine ⟨_, _, rfl, rfl, .inr ?_, _, rfl, .inl ⟨_, rfl, _, _, rfl, rfl, (by show (0 : Int) < 2147483647; decide), (by show 3 ≤ sizeLine; decide), fun a ha => ?_⟩⟩
    · by_cases hc : (10 : Int) ^ (18 : Int).toNat ≤ c
      · rw [decide_eq_true hc]; decide
      · rw [decide_eq_false hc]; decide
    · refine k a _ ha (same_new ha) ⟨_, _, _, upd_same, ?_, Int.emod_nonneg _ (by decide), Int.emod_lt_of_pos _ (by decide), by decide, by decide⟩
      by_cases hc : (10 : Int) ^ (18 : Int).toNat ≤ c
      · have e : (10 : Int) ^ (18 : Int).toNat = 1000000000000000000 := by decide
        rw [decide_eq_true hc]
        show 0 ≤ c * 1
        omega
      · rw [decide_eq_false hc]
        show 0 ≤ c * 0
        omega
def spNext : Sp := fun vs H Q _ => ∃ (a : Addr) (m : Int) (b : Nat), vs = [.ref a, .int m] ∧ Src H a b ∧ b ≤ 100000 ∧ 1 ≤ m ∧ m < 2 ^ 200 ∧ ∀ r H', 0 ≤ r → r < m → Kx a H H' → Src H' a (b + 1) → Q (.int r) H'
theorem scNext : FnScope ["_law_source", "_law_bound", "_law_result", "_law_prime", "_law_mixed"] ["_law_source", "_law_bound"] (defScope s_law_draw) := ⟨rfl, rfl, rfl, by decide +kernel, rfl, by decide +kernel, by decide +kernel⟩
theorem prime_at {s : Int} (h : 0 ≤ s) : ∃ pr : Int, atI [V.int 2147483647, V.int 2147483629, V.int 2147483587, V.int 2147483579, V.int 2147483563, V.int 2147483549, V.int 2147483543] (s % 7) = some (.int pr) ∧ 1 ≤ pr ∧ pr ≤ 2147483647 := by
  have h1 : s % 7 = 0 ∨ s % 7 = 1 ∨ s % 7 = 2 ∨ s % 7 = 3 ∨ s % 7 = 4 ∨ s % 7 = 5 ∨ s % 7 = 6 := by omega
  rcases h1 with h1 | h1 | h1 | h1 | h1 | h1 | h1 <;> rw [h1] <;> exact ⟨_, rfl, by decide, by decide⟩
theorem ok_next {f C : Addr} {fd : FuncData} (F : Fun K "_law_draw" "_law_draw" s_law_draw f fd) (T : Txt K mg C) : FnOk P w K mg base CX0 1 f fd ["_law_source", "_law_bound"] spNext := by
  refine F.ok scNext (fun vs H Q E h => ?_) (fun cdv A outer s H vs Q E hr h => ?_)
  · obtain ⟨a, m, b, rfl, _⟩ := h
    rfl
  · obtain ⟨a, m, b, rfl, S, hb, hm1, hm2, k⟩ := h
    obtain ⟨s0, s1, s2, ha, h0, h1, h1', h2, h2'⟩ := S.ex
    refine ⟨_, (pss_cons (ps_if (pt_cmpR op_gt (pe_ix ix_list (pv 0) pe_int (fun _ _ => rfl)) pe_int (nomark _)) (pss_cons (ps_set (i := 2) scNext.nd rfl (Or.inl rfl) (pe_op op_mod (pe_callTy call_int1 (by rfl) T.int (by decide +kernel) (pa_cons (pe_ix ix_list (pv 0) pe_int (fun _ _ => rfl)) pa_nil)) (pv 1))) (pss_cons (ps_asg (pe_op op_fdivW (pe_ix ix_list (pv 0) pe_int (fun _ _ => rfl)) (pv 1)) (pg_sub (pv 0) pe_int set_list)) (pss_one (ps_ret (pv 2))))) pss_nil) (pss_cons (ps_asg (pe_op op_add (pe_ix ix_list (pv 0) pe_int (fun _ _ => rfl)) pe_int) (pg_sub (pv 0) pe_int set_list)) (pss_cons (ps_set (i := 3) scNext.nd rfl (Or.inl rfl) (pe_ix ix_list (pe_lst (pa_cons pe_int (pa_cons pe_int (pa_cons pe_int (pa_cons pe_int (pa_cons pe_int (pa_cons pe_int (pa_cons pe_int pa_nil)))))))) (pe_op op_mod (pe_callTy call_int1 (by rfl) T.int (by decide +kernel) (pa_cons (pe_ix ix_list (pv 0) pe_int (fun _ _ => rfl)) pa_nil)) pe_int) (fun _ _ => rfl))) (pss_cons (ps_set (i := 4) scNext.nd rfl (Or.inl rfl) (pe_op op_mod (pe_callTy call_int1 (by rfl) T.int (by decide +kernel) (pa_cons (pe_op op_pow (pe_op op_add (pe_op op_add (pe_ix ix_list (pv 0) pe_int (fun _ _ => rfl)) (pe_op op_mul pe_int (pe_ix ix_list (pv 0) pe_int (fun _ _ => rfl)))) pe_int) pe_int) pa_nil)) (pv 3))) (pss_cons (ps_set (i := 4) scNext.nd rfl (Or.inl rfl) (pe_op op_mod (pe_callTy call_int1 (by rfl) T.int (by decide +kernel) (pa_cons (pe_op op_mul (pe_op op_add (pv 4) (pe_ix ix_list (pv 0) pe_int (fun _ _ => rfl))) (pe_op op_add (pe_op op_fdiv (pv 4) pe_int) pe_int)) pa_nil)) (pv 3))) (pss_one (ps_ret (pe_op op_mod (pe_callTy call_int1 (by rfl) T.int (by decide +kernel) (pa_cons (pe_op op_fdiv (pv 4) pe_int) pa_nil)) (pv 1))))))))), ?_⟩
    refine ⟨_, rfl, a, _, _, _, rfl, rfl, SqL.of ha, atI_nat (j := 0) rfl, _, _, rfl, rfl, _, rfl, ?_⟩
    by_cases hz : 0 < s0
    · refine iteTb (decide_eq_true hz) ?_
      refine ⟨_, rfl, a, _, _, _, rfl, rfl, SqL.of ha, atI_nat (j := 0) rfl, .inl ⟨_, rfl, _, rfl, _, _, rfl, rfl, by omega, ?_⟩⟩
      refine ⟨_, rfl, a, _, _, _, rfl, rfl, SqL.of ha, atI_nat (j := 0) rfl, _, rfl, _, _, rfl, rfl, wide_div (by omega) (b := 200) (by omega) (by decide) (by decide), _, rfl, a, _, _, 0, rfl, rfl, ha, rfl, ?_⟩
      refine ⟨_, rfl, k _ _ (Int.emod_nonneg _ (by omega)) (Int.emod_lt_of_pos _ (by omega)) Kx.upd ⟨s0 / m, s1, s2, upd_same, Int.ediv_nonneg h0 (by omega), h1, h1', h2, by omega⟩⟩
    · refine iteFb (decide_eq_false hz) ?_
      refine ⟨_, rfl, a, _, _, _, rfl, rfl, SqL.of ha, atI_nat (j := 2) rfl, _, _, rfl, rfl, _, rfl, a, _, _, 2, rfl, rfl, ha, rfl, ?_⟩
      refine ⟨by show 7 ≤ sizeLine; decide, fun l hl => ?_⟩
      have hal : (upd (upd H a (.lst [.int s0, .int s1, .int (s2 + 1)])) l (.lst [.int 2147483647, .int 2147483629, .int 2147483587, .int 2147483579, .int 2147483563, .int 2147483549, .int 2147483543])) a = some (.lst [.int s0, .int s1, .int (s2 + 1)]) := by
        rw [upd_ne (ne_of_none upd_same hl)]
        exact upd_same
      obtain ⟨pr, hpr, hp1, hp2⟩ := prime_at (s := s2 + 1) (by omega)
      refine ⟨_, rfl, a, _, _, _, rfl, rfl, SqL.of hal, atI_nat (j := 2) rfl, .inl ⟨_, rfl, _, _, rfl, rfl, (by show (0 : Int) < 7; decide), l, _, _, _, rfl, rfl, SqL.of upd_same, hpr, ?_⟩⟩
      refine ⟨_, rfl, a, _, _, _, rfl, rfl, SqL.of hal, atI_nat (j := 1) rfl, _, rfl, a, _, _, _, rfl, rfl, SqL.of hal, atI_nat (j := 2) rfl, _, _, rfl, rfl, .inl ⟨by decide, by decide⟩, _, _, rfl, rfl, _, _, rfl, rfl, _, _, rfl, rfl, ⟨by decide, by decide, by omega⟩, .inl ⟨_, rfl, _, rfl, _, _, rfl, rfl, by omega, ?_⟩⟩
      generalize hf : (s1 + 7919 * (s2 + 1) + 1) ^ (5 : Int).toNat % pr = fg
      have f0 : 0 ≤ fg := by rw [← hf]; exact Int.emod_nonneg _ (by omega)
      have f1 : fg < pr := by rw [← hf]; exact Int.emod_lt_of_pos _ (by omega)
      refine ⟨_, rfl, _, rfl, a, _, _, _, rfl, rfl, SqL.of hal, atI_nat (j := 2) rfl, _, _, rfl, rfl, _, rfl, _, _, rfl, rfl, ⟨by decide, by decide⟩, _, _, rfl, rfl, _, _, rfl, rfl, .inl ⟨by omega, by omega⟩, .inl ⟨_, rfl, _, rfl, _, _, rfl, rfl, by omega, ?_⟩⟩
      refine ⟨_, rfl, _, _, rfl, rfl, ⟨by decide, by decide⟩, .inl ⟨_, rfl, _, rfl, _, _, rfl, rfl, by omega, ?_⟩⟩
      refine k _ _ (Int.emod_nonneg _ (by omega)) (Int.emod_lt_of_pos _ (by omega)) (fun c u n e => ?_) ⟨s0, s1, s2 + 1, hal, h0, h1, h1', by omega, by omega⟩
      have e2 : (upd H a (.lst [.int s0, .int s1, .int (s2 + 1)])) c = some u := by
        rw [upd_ne n]
        exact e
      rw [upd_ne (ne_of_none e2 hl)]
      exact e2
def spOne : Sp := fun vs H Q _ => ∃ (a q : Addr) (xs : List V) (b : Nat), vs = [.ref a, .ref q] ∧ Src H a b ∧ b ≤ 100000 ∧ q ≠ a ∧ H q = some (.lst xs) ∧ 0 < xs.length ∧ xs.length < 1000 ∧ ∀ x H', x ∈ xs → Kx a H H' → Src H' a (b + 1) → Q x H'
theorem scOne : FnScope ["_law_source", "_law_options"] ["_law_source", "_law_options"] (defScope s_law_choice) := ⟨rfl, rfl, rfl, by decide +kernel, rfl, by decide +kernel, by decide +kernel⟩
theorem ok_one {f C fN : Addr} {fd fdN : FuncData} (F : Fun K "_law_choice" "_law_choice" s_law_choice f fd) (T : Txt K mg C) (FN : Fun K "_law_draw" "_law_draw" s_law_draw fN fdN) (bN : Binds K fdN ["_law_source", "_law_bound"] []) (mN : mg "_law_draw" = some (.ref fN)) :
    FnOk P w K mg base CX0 2 f fd ["_law_source", "_law_options"] spOne := by
  have GN : FnOk P w K mg base CX0 1 fN fdN ["_law_source", "_law_bound"] spNext := ok_next FN T
  refine F.ok scOne (fun vs H Q E h => ?_) (fun cdv A outer s H vs Q E hr h => ?_)
  · obtain ⟨a, q, xs, b, rfl, _⟩ := h
    rfl
  · obtain ⟨a, q, xs, b, rfl, S, hb, hne, hq, hx0, hx1, k⟩ := h
    refine ⟨_, (pss_one (ps_ret (pe_ix ix_list (pv 1) (pe_call GN hr rfl mN FN.kp bN .nil pass0 (pa_cons (pv 0) (pa_cons (pe_callB call_len_seq (by rfl) T.len (by decide +kernel) (pa_cons (pv 1) pa_nil)) pa_nil))) (fun _ _ => rfl)))), ?_⟩
    refine ⟨_, rfl, _, rfl, _, rfl, q, _, rfl, .inl (SqL.of hq), a, (xs.length : Int), b, rfl, S, hb, by omega, by omega, fun r H' r0 r1 kx S' => ?_⟩
    obtain ⟨j, rfl⟩ : ∃ j : Nat, r = (j : Int) := ⟨r.toNat, by omega⟩
    have hj : j < xs.length := by omega
    exact ⟨q, _, _, _, rfl, rfl, SqL.of (kx _ _ hne hq), atI_nat (List.getElem?_eq_getElem hj), k _ _ (List.getElem_mem hj) kx S'⟩
def spCell (K : PySem.W.Frag) : Sp := fun vs H Q _ => ∃ (a : Addr) (ns : List Int), vs = [.ref a, .int 0] ∧ SqL K H a (ns.map V.int) ∧ Q (.int (ns.getD 0 0)) H
theorem scCell : FnScope ["_law_script", "_law_index"] ["_law_script", "_law_index"] (defScope s_law_cell_at) := ⟨rfl, rfl, rfl, by decide +kernel, rfl, by decide +kernel, by decide +kernel⟩
theorem ok_cell {f C : Addr} {fd : FuncData} (F : Fun K "_law_cell_at" "_law_cell_at" s_law_cell_at f fd) (T : Txt K mg C) : FnOk P w K mg base CX0 1 f fd ["_law_script", "_law_index"] (spCell K) := by
  refine F.ok scCell (fun vs H Q E h => ?_) (fun cdv A outer s H vs Q E hr h => ?_)
  · obtain ⟨a, ns, rfl, _⟩ := h
    rfl
  · obtain ⟨a, ns, rfl, hs, k⟩ := h
    refine ⟨_, (pss_cons (ps_if (pt_cmpR op_lt (pv 1) (pe_callB call_len_seq (by rfl) T.len (by decide +kernel) (pa_cons (pv 0) pa_nil)) (nomark _)) (pss_one (ps_ret (pe_ix ix_list (pv 0) (pv 1) (fun _ _ => rfl)))) pss_nil) (pss_one (ps_ret pe_int))), ?_⟩
    refine ⟨_, rfl, _, rfl, a, _, rfl, .inl hs, _, _, rfl, rfl, _, rfl, ?_⟩
    rw [List.length_map]
    cases ns with
    | nil => exact iteFb (by decide) k
    | cons n r =>
      refine iteTb (decide_eq_true (by rw [List.length_cons]; omega)) ?_
      exact ⟨_, rfl, _, rfl, a, _, _, _, rfl, rfl, hs, atI_nat (j := 0) rfl, k⟩
end
end RS
namespace RS
open PySem L2
section
variable {P : Program} {w : World} {K : PySem.W.Frag} {mg : Str → Option Value} {base : Heap}
/-! ### check_starts: what is accepted -/
def spChS : Sp := fun vs H Q _ => ∃ (s : Addr) (bs : List Int) (few : Nat), vs = [.ref s, .int (few : Int)] ∧ H s = some (.lst (bs.map V.int)) ∧ few ≤ bs.length ∧ bs.length ≤ 40 ∧ ∀ H', Same H H' → Q .non H'
theorem scChS : FnScope ["value", "fewest", "at", "start"] ["value", "fewest"] (defScope s_check_starts) := ⟨rfl, rfl, rfl, by decide +kernel, rfl, by decide +kernel, by decide +kernel⟩
theorem ok_chS {f C fI : Addr} {fd fdI : FuncData} (F : Fun K "check_starts" "check_starts" s_check_starts f fd) (T : Txt K mg C) (mC : ∃ t, mg "MOST_CLIENTS" = some (.int 40 t))
    (GI : FnOk P w K mg base CX0 1 fI fdI ["value"] spIsInt) (bI : Binds K fdI ["value"] []) (mI : mg "is_integer" = some (.ref fI)) (kI : PySem.W.keepIn K (.ref fI) = true) : FnOk P w K mg base CX0 2 f fd ["value", "fewest"] spChS := by
  obtain ⟨t1, m1⟩ := mC
  refine F.ok scChS (fun vs H Q E h => ?_) (fun cdv A outer s H vs Q E hr h => ?_)
  · obtain ⟨s, bs, few, rfl, _⟩ := h
    rfl
  · obtain ⟨s, bs, few, rfl, hs, h1, h40, k⟩ := h
    refine ⟨_, (pss_cons (ps_if (PW.pt (pw_or (pt_not (pt_val (pe_callB call_isi (by rfl) T.isi (by decide +kernel) (pa_cons (pv 0) (pa_cons (pe_bltn (v := .ty "list") (by rfl) T.list (by decide +kernel) rfl) pa_nil))))) (pw_or1 (pt_not (pt_chain op_le op_le (pv 1) (pe_callB call_len_seq (by rfl) T.len (by decide +kernel) (pa_cons (pv 0) pa_nil)) (pe_glob (v := .int 40) rfl m1 ⟨_, rfl⟩)))))) (pss_one ps_never) pss_nil) (pss_one (ps_for PassesOwn.never rfl (pi_enum (by rfl) T.enum (pa_cons (pv 0) pa_nil)) (pg_tup rfl (pgs_cons (pg_name (i := 2) scChS.nd rfl (Or.inl rfl)) (pgs_cons (pg_name (i := 3) scChS.nd rfl (Or.inl rfl)) pgs_nil)))
        (pss_one (ps_if (pt_not (pt_val (pe_call GI hr rfl mI kI bI .nil pass0 (pa_cons (pv 3) pa_nil)))) (pss_one ps_never) pss_nil))))), ?_⟩
    refine ⟨_, rfl, _, _, _, _, _, rfl, .ty _, .base (.lst hs), kit_ty (r := true) (by decide +kernel), true, rfl, iteF ?_⟩
    refine ⟨_, rfl, _, rfl, s, _, rfl, .inl (SqL.of hs), _, _, rfl, rfl, _, rfl, ?_⟩
    rw [List.length_map]
    refine iteTb (decide_eq_true (by omega)) ?_
    refine ⟨_, _, rfl, rfl, _, rfl, iteFb (by rw [decide_eq_true (by omega)]; rfl) ?_⟩
    refine ⟨_, rfl, s, _, rfl, SqL.of hs, for_it (walk_enum (a := s) (xs := bs.map V.int)) (fun i σ H' => (∃ v1 v2, σ = [some (.ref s), some (.int (few : Int)), v1, v2]) ∧ Same H H') ⟨⟨_, _, rfl⟩, Same.refl H⟩ (fun i σ H' _ p => SqL.of (p.2 _ _ hs)) ?_ ?_⟩
    · rintro i x σ H1 H2 hi ⟨⟨v1, v2, rfl⟩, S⟩ ⟨T2, x1, y1, rfl, hT, rfl, hx1, hy1⟩
      obtain rfl := Option.some.inj hx1
      obtain ⟨b, _, rfl⟩ := map_of hy1
      have sT := same_new (o := .tup [V.int (i : Nat), .int b]) hT
      refine ⟨T2, _, rfl, SqT.of upd_same, rfl, _, _, rfl, _, _, rfl, rfl, ?_⟩
      exact ⟨_, rfl, b, rfl, true, rfl, iteF ⟨⟨_, _, rfl⟩, S.trans sT⟩⟩
    · rintro σ H1 ⟨_, S⟩
      exact k H1 S
end
end RS
namespace RS
open PySem L2
/-! ### offsets that repeat, residues -/
def repOffs (gs : List Int) (m : Nat) : List Int := (List.range m).map fun k => pre gs (gs.length - m + k)
def resid (gs : List Int) (m : Nat) (s : Int) : List Int := (repOffs gs m).map fun x => (s + x) % per gs m
theorem resid_len (gs : List Int) (m : Nat) (s : Int) : (resid gs m s).length = m := by simp [resid, repOffs]
theorem cut_last (xs : List V) (i : Nat) (h : i < xs.length) : cutV xs (some (i : Int)) (some (-1)) = (xs.drop i).take (xs.length - 1 - i) := by
  have e : HT.sIx xs.length xs.length (some (-1 : Int)) = xs.length - 1 := by
    show (if (-1 : Int) < 0 then (-1 + (xs.length : Int)).toNat else min (-1 : Int).toNat xs.length) = _
    rw [if_pos (by omega)]
    omega
  unfold cutV
  rw [HT.sIx_nat, e, Nat.min_eq_left (by omega)]
theorem cut_offs {gs : List Int} {m : Nat} (h1 : 1 ≤ m) (h2 : m ≤ gs.length) : cutV ((offs gs).map V.int) (some ((gs.length - m : Nat) : Int)) (some (-1)) = (repOffs gs m).map V.int := by
  have hl : ((offs gs).map V.int).length = gs.length + 1 := by rw [List.length_map, offs_len]
  rw [cut_last _ _ (by rw [hl]; omega), hl]
  refine List.ext_getElem? fun k => ?_
  unfold repOffs
  by_cases hk : k < m
  · rw [List.getElem?_take_of_lt (by omega), List.getElem?_drop, List.getElem?_map, offs_get gs (by omega), List.getElem?_map, List.getElem?_map, List.getElem?_range hk]
    rfl
  · rw [List.getElem?_eq_none (by rw [List.length_take, List.length_drop, hl]; omega), List.getElem?_eq_none (by simp; omega)]
section
variable {P : Program} {w : World} {K : PySem.W.Frag} {mg : Str → Option Value} {base : Heap}
def spLO (C : Addr) : Sp := fun vs H Q _ => ∃ (p g t o : Addr) (gs : List Int) (tl : Tl), vs = [.ref p] ∧ RuleAt C H p g t o gs tl ∧ ∀ q H', H q = none → Same H H' → H' q = some (.lst ((offs gs).map V.int)) → Q (.ref q) H'
theorem scLO : FnScope ["rule"] ["rule"] (defScope s_listed_offsets) := ⟨rfl, rfl, rfl, by decide +kernel, rfl, by decide +kernel, by decide +kernel⟩
theorem ok_lo {f C fS fG : Addr} {fd fdS fdG : FuncData} (F : Fun K "listed_offsets" "listed_offsets" s_listed_offsets f fd) (T : Txt K mg C) (GS : FnOk P w K mg base CX0 1 fS fdS ["gaps"] spSums) (bS : Binds K fdS ["gaps"] []) (mS : mg "sums" = some (.ref fS)) (kS : PySem.W.keepIn K (.ref fS) = true)
    (GG : FnOk P w K mg base CX0 1 fG fdG ["self"] (spGaps C)) (bG : Binds K fdG ["self"] []) (mG : Meth K C "gaps" fG) : FnOk P w K mg base CX0 2 f fd ["rule"] (spLO C) := by
  refine F.ok scLO (fun vs H Q E h => ?_) (fun cdv A outer s H vs Q E hr h => ?_)
  · obtain ⟨p, g, t, o, gs, tl, rfl, _⟩ := h
    rfl
  · obtain ⟨p, g, t, o, gs, tl, rfl, R, k⟩ := h
    refine ⟨_, (pss_one (ps_ret (pe_call GS hr rfl mS kS bS .nil pass0 (pa_cons (pe_meth0 (pv 0) T.cl mG GG hr bG .nil pass0) pa_nil)))), ?_⟩
    obtain ⟨dx, hob⟩ := R.ob
    have hl := R.okG.1
    refine ⟨_, rfl, p, dx, _, rfl, hob, flds_no _ _ _ (by decide +kernel) (by decide +kernel) (by decide +kernel), p, g, t, o, gs, tl, rfl, R, fun l hl0 => ?_⟩
    have S := same_new (o := .lst (gs.map V.int)) hl0
    refine ⟨l, gs, rfl, upd_same, by omega, fun q H' hq S' hq' => k q H' (S.free hq) (S.trans S') hq'⟩
def spRO (C : Addr) : Sp := fun vs H Q _ => ∃ (p g t o : Addr) (gs : List Int) (m : Nat), vs = [.ref p] ∧ RuleAt C H p g t o gs (.rep m) ∧ ∀ q H', H q = none → Same H H' → H' q = some (.lst ((repOffs gs m).map V.int)) → Q (.ref q) H'
theorem scRO : FnScope ["rule"] ["rule"] (defScope s_repeating_offsets) := ⟨rfl, rfl, rfl, by decide +kernel, rfl, by decide +kernel, by decide +kernel⟩
theorem ok_ro {f C fL fR : Addr} {fd fdL fdR : FuncData} (F : Fun K "repeating_offsets" "repeating_offsets" s_repeating_offsets f fd) (T : Txt K mg C) (GL : FnOk P w K mg base CX0 2 fL fdL ["rule"] (spLO C)) (bL : Binds K fdL ["rule"] []) (mL : mg "listed_offsets" = some (.ref fL)) (kL : PySem.W.keepIn K (.ref fL) = true)
    (GR : FnOk P w K mg base CX0 1 fR fdR ["self"] (spFR C)) (bR : Binds K fdR ["self"] []) (mR : Meth K C "first_repeating" fR) : FnOk P w K mg base CX0 3 f fd ["rule"] (spRO C) := by
  refine F.ok scRO (fun vs H Q E h => ?_) (fun cdv A outer s H vs Q E hr h => ?_)
  · obtain ⟨p, g, t, o, gs, m, rfl, _⟩ := h
    rfl
  · obtain ⟨p, g, t, o, gs, m, rfl, R, k⟩ := h
    have hr1 := hr.mono (show 1 ≤ 2 by decide)
    refine ⟨_, (pss_cons (ps_if (pt_cmpR op_isN (pe_meth0 (pv 0) T.cl mR GR hr1 bR .nil pass0) pe_non (nomark _)) (pss_one (ps_ret (pe_lst pa_nil))) pss_nil) (pss_one (ps_ret (pe_slice sl_list (pe_call GL hr rfl mL kL bL .nil pass0 (pa_cons (pv 0) pa_nil)) (po_some (pe_meth0 (pv 0) T.cl mR GR hr1 bR .nil pass0)) (po_some (pe_un un_neg pe_int)))))), ?_⟩
    obtain ⟨dx, hob⟩ := R.ob
    have hm0 : 1 ≤ m := R.okT.1
    have hm1 : m ≤ gs.length := R.okT.2
    have nF : (flds g t o).lookup ("first_repeating" : Str) = none := flds_no _ _ _ (by decide +kernel) (by decide +kernel) (by decide +kernel)
    refine ⟨_, rfl, p, dx, _, rfl, hob, nF, p, g, t, o, gs, m, rfl, R, rfl, _, rfl, iteFb (decide_eq_false fun e => nomatch e) ?_⟩
    refine ⟨_, rfl, p, g, t, o, gs, .rep m, rfl, R, fun q H1 hq S1 hq1 => ?_⟩
    have R1 := R.mono S1
    obtain ⟨dx1, hob1⟩ := R1.ob
    refine ⟨_, rfl, p, dx1, _, rfl, hob1, nF, p, g, t, o, gs, m, rfl, R1, _, rfl, _, rfl, _, rfl, q, _, rfl, SqL.of hq1, fun l hl => ?_⟩
    rw [cut_offs hm0 hm1]
    exact k l _ (S1.free hl) (S1.trans (same_new hl)) upd_same
def spRes (C : Addr) : Sp := fun vs H Q _ => ∃ (p g t o : Addr) (gs : List Int) (m : Nat) (s : Int), vs = [.ref p, .int s] ∧ RuleAt C H p g t o gs (.rep m) ∧ ∀ q H', H q = none → Same H H' → H' q = some (.lst ((resid gs m s).map V.int)) → Q (.ref q) H'
theorem scRes : FnScope ["rule", "start", "offset"] ["rule", "start"] (defScope s_residues) := ⟨rfl, rfl, rfl, by decide +kernel, rfl, by decide +kernel, by decide +kernel⟩
theorem ok_res {f C fO fP : Addr} {fd fdO fdP : FuncData} (F : Fun K "_residues" "_residues" s_residues f fd) (T : Txt K mg C) (GO : FnOk P w K mg base CX0 3 fO fdO ["rule"] (spRO C)) (bO : Binds K fdO ["rule"] []) (mO : mg "repeating_offsets" = some (.ref fO)) (kO : PySem.W.keepIn K (.ref fO) = true)
    (GP : FnOk P w K mg base CX0 2 fP fdP ["self"] (spPer C)) (bP : Binds K fdP ["self"] []) (mP : Meth K C "period" fP) : FnOk P w K mg base CX0 4 f fd ["rule", "start"] (spRes C) := by
  refine F.ok scRes (fun vs H Q E h => ?_) (fun cdv A outer s H vs Q E hr h => ?_)
  · obtain ⟨p, g, t, o, gs, m, s, rfl, _⟩ := h
    rfl
  · obtain ⟨p, g, t, o, gs, m, st, rfl, R, k⟩ := h
    have hr2 := hr.mono (show 2 ≤ 3 by decide)
    have hm0 : 1 ≤ m := R.okT.1
    have hm1 : m ≤ gs.length := R.okT.2
    have hp := per_bd R.okG hm0 hm1
    have hg := R.okG.1
    refine ⟨_, (pss_one (ps_ret (pe_lc (own := [("offset", 2)]) (g := gName 2) (tt := tYes) rfl scRes.nd (pi_list (pe_call GO hr rfl mO kO bO .nil pass0 (pa_cons (pv 0) pa_nil))) (blkOk_by (own := [("offset", 2)]) (N := ["rule", "start", "offset"]) (sc := defScope s_residues) (by decide +kernel))
        (fun _ _ _ _ _ => (pg_name (i := 2) scRes.nd rfl (Or.inl rfl))) (fun _ _ _ _ _ => pts_nil) (fun _ _ _ _ _ => (pe_op op_mod (pe_op op_add (pv 1) (pv 2)) (pe_meth0 (pv 0) T.cl mP GP hr2 bP .nil pass0)))))), ?_⟩
    refine ⟨_, rfl, p, g, t, o, gs, m, rfl, R, fun q H1 hq S1 hq1 => ?_⟩
    refine ⟨q, rfl, ⟨_, SqL.of hq1⟩, fun D hD => lc_map (a := q) (xs := (repOffs gs m).map V.int) ((resid gs m st).map V.int) (SqL.of hq1) hD (by simp [resid]) (by simp [repOffs]; omega) (fun i x y H2 Q2 hx hy S2 q2 => ?_) (fun H2 S2 h2 => k D H2 (S1.free hD) (S1.trans S2) h2)⟩
    obtain ⟨x, hx', rfl⟩ := map_of hx
    obtain ⟨y, hy', rfl⟩ := map_of hy
    have ey : y = (st + x) % per gs m := by
      unfold resid at hy'
      rw [List.getElem?_map, hx'] at hy'
      exact (Option.some.inj hy').symm
    have R2 := (R.mono S1).mono S2
    obtain ⟨dx, hob⟩ := R2.ob
    refine ⟨rfl, _, rfl, _, rfl, _, _, rfl, rfl, ?_⟩
    refine ⟨_, rfl, p, dx, _, rfl, hob, flds_no _ _ _ (by decide +kernel) (by decide +kernel) (by decide +kernel), p, g, t, o, gs, .rep m, rfl, R2, _, _, rfl, rfl, (by show (0 : Int) < per gs m; omega), ?_⟩
    have := q2 H2 (Same.refl H2)
    rw [ey] at this
    exact this
/-! ### tables: lists of lists -/
theorem mem_get {α : Type} {xs : List α} {i : Nat} {x : α} (h : xs[i]? = some x) : x ∈ xs := List.mem_of_getElem? h
def LsAt (H : Hp) (ts : List Addr) (T : List (List Int)) : Prop := ts.length = T.length ∧ ∀ (i : Nat) (r : List Int), T[i]? = some r → ∃ p, ts[i]? = some p ∧ H p = some (.lst (r.map V.int))
theorem LsAt.mono {H H' : Hp} {ts : List Addr} {T : List (List Int)} (h : LsAt H ts T) (S : Same H H') : LsAt H' ts T := ⟨h.1, fun i r e => let ⟨p, h1, h2⟩ := h.2 i r e; ⟨p, h1, S _ _ h2⟩⟩
theorem LsAt.nil (H : Hp) : LsAt H [] [] := ⟨rfl, fun i r e => by simp at e⟩
theorem LsAt.snoc {H : Hp} {ts : List Addr} {T : List (List Int)} {p : Addr} {r : List Int} (h : LsAt H ts T) (hp : H p = some (.lst (r.map V.int))) : LsAt H (ts ++ [p]) (T ++ [r]) := by
  refine ⟨by simp [h.1], fun i x e => ?_⟩
  by_cases hi : i < T.length
  · rw [List.getElem?_append_left hi] at e
    rw [List.getElem?_append_left (by rw [h.1]; exact hi)]
    exact h.2 i x e
  · rw [List.getElem?_append_right (by omega)] at e
    have e0 : i - T.length = 0 := by
      by_cases h0 : i - T.length = 0
      · exact h0
      · rw [List.getElem?_eq_none (by simp; omega)] at e
        cases e
    rw [e0] at e
    cases e
    rw [List.getElem?_append_right (by rw [h.1]; omega), h.1, e0]
    exact ⟨p, rfl, hp⟩
theorem LsAt.off {H : Hp} {ts : List Addr} {T : List (List Int)} {D : Addr} {o : HO} (h : LsAt H ts T) (n : ∀ p ∈ ts, p ≠ D) : LsAt (upd H D o) ts T :=
  ⟨h.1, fun i r e => let ⟨p, h1, h2⟩ := h.2 i r e; ⟨p, h1, by rw [upd_ne (n p (mem_get h1))]; exact h2⟩⟩
def spTab (C : Addr) : Sp := fun vs H Q _ => ∃ (p g t o b : Addr) (gs : List Int) (m : Nat) (bs : List Int), vs = [.ref p, .ref b] ∧ RuleAt C H p g t o gs (.rep m) ∧ H b = some (.lst (bs.map V.int)) ∧ bs.length ≤ 1000 ∧ ∀ q ts H', H q = none → Same H H' → H' q = some (.lst (ts.map V.ref)) → LsAt H' ts (bs.map (resid gs m)) → Q (.ref q) H'
theorem scTab : FnScope ["rule", "starts", "start"] ["rule", "starts"] (defScope s_residue_table) := ⟨rfl, rfl, rfl, by decide +kernel, rfl, by decide +kernel, by decide +kernel⟩
theorem ok_tab {f C fR : Addr} {fd fdR : FuncData} (F : Fun K "_residue_table" "_residue_table" s_residue_table f fd) (T : Txt K mg C) (GR : FnOk P w K mg base CX0 4 fR fdR ["rule", "start"] (spRes C)) (bR : Binds K fdR ["rule", "start"] []) (mR : mg "_residues" = some (.ref fR)) (kR : PySem.W.keepIn K (.ref fR) = true) : FnOk P w K mg base CX0 5 f fd ["rule", "starts"] (spTab C) := by
  refine F.ok scTab (fun vs H Q E h => ?_) (fun cdv A outer s H vs Q E hr h => ?_)
  · obtain ⟨p, g, t, o, b, gs, m, bs, rfl, _⟩ := h
    rfl
  · obtain ⟨p, g, t, o, b, gs, m, bs, rfl, R, hb, hbl, k⟩ := h
    refine ⟨_, (pss_one (ps_ret (pe_lc (own := [("start", 2)]) (g := gName 2) (tt := tYes) rfl scTab.nd (pi_list (pv 1)) (blkOk_by (own := [("start", 2)]) (N := ["rule", "starts", "start"]) (sc := defScope s_residue_table) (by decide +kernel))
        (fun _ _ _ _ _ => (pg_name (i := 2) scTab.nd rfl (Or.inl rfl))) (fun _ _ _ _ _ => pts_nil) (fun _ _ _ _ _ => (pe_call GR hr rfl mR kR bR .nil pass0 (pa_cons (pv 0) (pa_cons (pv 2) pa_nil))))))), ?_⟩
    refine ⟨_, rfl, b, rfl, ⟨_, SqL.of hb⟩, fun D hD => lc_list (a := b) (xs := bs.map V.int) (fun i H' => Same H H' ∧ ∃ ts, H' D = some (.lst (ts.map V.ref)) ∧ LsAt H' ts ((bs.take i).map (resid gs m)) ∧ ∀ p ∈ ts, p ≠ D) ⟨same_app hD (fun _ _ e => e), [], upd_same, LsAt.nil _, fun p hp => nomatch hp⟩ (fun i H' _ q => q.1.seq (SqL.of hb)) (fun i x H1 hx q => ?_) (fun H1 q => ?_)⟩
    · obtain ⟨S, ts, hts, L, nD⟩ := q
      have hi := (List.getElem?_eq_some_iff.mp hx).1
      rw [List.length_map] at hi
      obtain ⟨x, hx', rfl⟩ := map_of hx
      refine ⟨rfl, yes_t (iteT ?_)⟩
      refine ⟨_, rfl, _, rfl, p, g, t, o, gs, m, x, rfl, R.mono S, fun q H2 hq S2 hq2 => ?_⟩
      have hD2 := S2 _ _ hts
      have hlt := L.1
      rw [List.length_map, List.length_take] at hlt
      have nq : q ≠ D := fun z => by rw [z, hts] at hq; cases hq
      have nD2 : ∀ p ∈ ts ++ [q], p ≠ D := fun p' hp => by
        rcases List.mem_append.mp hp with h | h
        · exact nD p' h
        · rw [List.mem_singleton.mp h]
          exact nq
      refine ⟨_, hD2, ?_, same_app hD (S.trans S2), ts ++ [q], ?_, ?_, nD2⟩
      · rw [List.length_map]
        exact small_line (by omega)
      · rw [upd_same, List.map_append]
        rfl
      · rw [List.take_add_one, hx', List.map_append]
        exact ((L.mono S2).snoc hq2).off nD2
    · obtain ⟨S, ts, hts, L, _⟩ := q
      rw [List.length_map, List.take_length] at L
      exact k D ts H1 hD S hts L
end
end RS
namespace RS
open PySem L2
/-! ### closed sets of clients -/
def nV (n : Nat) : V := .int (n : Int)
def cnt (T : List (List Int)) (cs : List Nat) (r : Int) : Nat := (cs.map fun c => (T.getD c []).count r).sum
def fits (T : List (List Int)) (cs : List Nat) (c : Nat) : Bool := (T.getD c []).all fun r => decide (1 < cnt T cs r)
def stepC (T : List (List Int)) (cs : List Nat) : List Nat := cs.filter (fits T cs)
def ClosedS (T : List (List Int)) (M : List Nat) : Prop := ∀ c ∈ M, fits T M c = true
theorem sum_sub (f : Nat → Nat) : ∀ {M ks : List Nat}, M.Nodup → (∀ x ∈ M, x ∈ ks) → (M.map f).sum ≤ (ks.map f).sum
  | [], _, _, _ => by simp
  | x :: M, ks, hn, hs => by
    have hx := hs x (List.mem_cons_self ..)
    have e := ((List.perm_cons_erase hx).map f).sum_nat
    rw [List.map_cons, List.sum_cons] at e
    have ih := sum_sub f (M := M) (ks := ks.erase x) (List.nodup_cons.mp hn).2 fun y hy => (List.mem_erase_of_ne fun z => (List.nodup_cons.mp hn).1 (by rw [← z]; exact hy)).mpr (hs y (List.mem_cons_of_mem _ hy))
    rw [List.map_cons, List.sum_cons, e]
    omega
theorem cnt_sub {T : List (List Int)} {M ks : List Nat} (hn : M.Nodup) (hs : ∀ x ∈ M, x ∈ ks) (r : Int) : cnt T M r ≤ cnt T ks r := sum_sub _ hn hs
theorem fits_sub {T : List (List Int)} {M ks : List Nat} (hn : M.Nodup) (hs : ∀ x ∈ M, x ∈ ks) {c : Nat} (h : fits T M c = true) : fits T ks c = true := by
  unfold fits at h ⊢
  rw [List.all_eq_true] at h ⊢
  intro r hr
  have := of_decide_eq_true (h r hr)
  have := cnt_sub (T := T) hn hs r
  exact decide_eq_true (by omega)
theorem step_keeps {T : List (List Int)} {M ks : List Nat} (hc : ClosedS T M) (hn : M.Nodup) (hs : ∀ x ∈ M, x ∈ ks) : ∀ x ∈ M, x ∈ stepC T ks := fun x hx => List.mem_filter.mpr ⟨hs x hx, fits_sub hn hs (hc x hx)⟩
theorem step_closed {T : List (List Int)} {ks : List Nat} (h : stepC T ks = ks) : ClosedS T ks := fun c hc => by
  rw [← h] at hc
  exact (List.mem_filter.mp hc).2
theorem count_one (z y : Int) : List.count z [y] = if z = y then 1 else 0 := by
  by_cases e : z = y
  · subst e
    simp
  · rw [if_neg e, List.count_eq_zero]
    simpa using e
theorem mem_le_sum : ∀ {l : List Nat} {x : Nat}, x ∈ l → x ≤ l.sum
  | y :: l, x, h => by
    rw [List.sum_cons]
    rcases List.mem_cons.mp h with rfl | h
    · omega
    · have := mem_le_sum h
      omega
theorem cnt_snoc (T : List (List Int)) (cs : List Nat) (c : Nat) (r : Int) : cnt T (cs ++ [c]) r = cnt T cs r + (T.getD c []).count r := by
  unfold cnt
  rw [List.map_append, List.sum_append]
  simp
/-- ks is what is left of cs -/
structure Left (T : List (List Int)) (cs ks : List Nat) : Prop where
  sub : ks.Sublist cs
  all : ∀ M, ClosedS T M → M.Nodup → (∀ x ∈ M, x ∈ cs) → ∀ x ∈ M, x ∈ ks
theorem Left.refl (T : List (List Int)) (cs : List Nat) : Left T cs cs := ⟨List.Sublist.refl _, fun _ _ _ h => h⟩
theorem Left.step {T : List (List Int)} {cs ks : List Nat} (h : Left T cs ks) : Left T cs (stepC T ks) := ⟨(List.filter_sublist).trans h.sub, fun M hc hn hs => step_keeps hc hn (h.all M hc hn hs)⟩
/-- a dict that counts -/
def CntD (kvs : List (Key × V)) (f : Int → Nat) : Prop := ∀ r : Int, valV kvs (Sum.inl r) = if f r = 0 then none else some (.int (f r : Int))
theorem CntD.nil : CntD [] fun _ => 0 := fun r => by rw [if_pos rfl]; rfl
theorem CntD.get {kvs : List (Key × V)} {f : Int → Nat} (h : CntD kvs f) (r : Int) : (valV kvs (Sum.inl r)).getD (.int 0) = .int (f r : Int) := by
  rw [h r]
  split
  · rename_i e
    rw [e]
    rfl
  · rfl
theorem CntD.put {kvs : List (Key × V)} {f g : Int → Nat} (h : CntD kvs f) (r : Int) (hg : ∀ x, g x = f x + if x = r then 1 else 0) : CntD (putK kvs (Sum.inl r) (.int ((f r : Int) + 1))) g := fun x => by
  rw [valV_put, hg x]
  by_cases e : x = r
  · subst e
    rw [if_pos rfl, if_pos rfl, if_neg (by omega)]
    congr 2
  · rw [if_neg (fun z => e (Sum.inl.inj z)), if_neg e, h x]
    rfl
theorem CntD.congr {kvs : List (Key × V)} {f g : Int → Nat} (h : CntD kvs f) (e : ∀ x, g x = f x) : CntD kvs g := fun x => by rw [e x]; exact h x
theorem sel_filter {α : Type} (xs : List α) (f : α → Bool) (h : α → V) : ∀ i, i ≤ xs.length → selTo (fun j : Nat => (xs[j]?).bind fun c => if f c = true then some (h c) else none) i = ((xs.take i).filter f).map h
  | 0, _ => rfl
  | i + 1, hi => by
    rw [selTo_succ, sel_filter xs f h i (by omega), List.take_add_one, List.filter_append, List.map_append]
    congr 1
    rw [List.getElem?_eq_getElem (by omega)]
    show (if f xs[i] = true then some (h xs[i]) else none).toList = _
    cases e : f xs[i] <;> simp [e]
theorem nmap_of {xs : List Nat} {i : Nat} {x : V} (hx : (xs.map nV)[i]? = some x) : ∃ g, xs[i]? = some g ∧ x = .int (g : Int) := by
  rw [List.getElem?_map] at hx
  cases e : xs[i]? with
  | none => rw [e] at hx; cases hx
  | some g => rw [e] at hx; exact ⟨g, rfl, (Option.some.inj hx).symm⟩
section
variable {P : Program} {w : World} {K : PySem.W.Frag} {mg : Str → Option Value} {base : Heap}
def spGC : Sp := fun vs H Q _ => ∃ (tb c : Addr) (ts : List Addr) (T : List (List Int)) (cs : List Nat), vs = [.ref tb, .ref c] ∧ H tb = some (.lst (ts.map V.ref)) ∧ LsAt H ts T ∧ H c = some (.lst (cs.map nV)) ∧ (∀ x ∈ cs, x < T.length) ∧ cs.length ≤ 40 ∧ (∀ r ∈ T, r.length ≤ 20) ∧
  ∀ ks q H', H q = none → Same H H' → Left T cs ks → stepC T ks = ks → H' q = some (.lst (ks.map nV)) → Q (.ref q) H'
def gcN : List Str := ["table", "clients", "counts", "client", "residue", "kept"]
theorem scGC : FnScope gcN ["table", "clients"] (defScope s_greatest_closed) := ⟨rfl, rfl, rfl, by decide +kernel, rfl, by decide +kernel, by decide +kernel⟩
def scGc1 : Scope := { kind := .function, names := [(".0", .local), ("client", .local), ("all", .globalImplicit), ("counts", .cell), ("table", .cell)], isGenerator := false, isCoroutine := false }
theorem ok_gc {f C : Addr} {fd : FuncData} (F : Fun K "_greatest_closed" "_greatest_closed" s_greatest_closed f fd) (T : Txt K mg C) : FnOk P w K mg base CX0 1 f fd ["table", "clients"] spGC := by
  refine F.ok scGC (fun vs H Q E h => ?_) (fun cdv A outer s H vs Q E hr h => ?_)
  · obtain ⟨tb, c, ts, TT, cs, rfl, _⟩ := h
    rfl
  · obtain ⟨tb, c, ts, TT, cs, rfl, htb, hL, hc, hin, hcl, hrl, k⟩ := h
    have hu := hu_of hr
    refine ⟨_, pss_one (ps_while PassesOwn.never (pt_val pe_bl) (pss_cons (ps_set (i := 2) scGC.nd rfl (Or.inr rfl) pe_dnewK) (pss_cons (ps_for PassesOwn.never rfl (pi_list (pv 1)) (pg_name (i := 3) scGC.nd rfl (Or.inl rfl)) (pss_one (ps_for PassesOwn.never rfl (pi_list (pe_ix ix_list (pv 0) (pv 3) (fun _ _ => rfl))) (pg_name (i := 4) scGC.nd rfl (Or.inl rfl)) (pss_one (ps_dput hu (pv 2) (pv 4) (pe_op op_add (pe_dget2 hu (pv 2) (pv 4) pe_int ⟨by rfl, by rfl, by rfl, by rfl⟩) pe_int) rfl))))) (pss_cons (ps_setLc (i := 5) (own := [("client", 3)]) (g := gName 3) (by rfl) scGC.nd rfl rfl (sw_true rfl rfl rfl (by decide +kernel)) (pi_list (pv 1)) (blkOk_by (own := [("client", 3)]) (N := gcN) (sc := (defScope s_greatest_closed)) (by decide +kernel)) (fun _ _ _ _ _ => (pg_name (i := 3) scGC.nd rfl (Or.inl rfl))) (fun _ _ _ _ _ => pts_one (pt_val (pe_allK K (by rfl) rfl (by rfl) T.all (pe_lc (own := [("residue", 4)]) (g := gName 4) (tt := tYes) rfl scGC.nd (pi_listK K (by rfl) (pe_ixK K (by rfl) (pv 0) (pv 3))) (blkOk_by (own := [("residue", 4)]) (N := gcN) (sc := scGc1) (by decide +kernel)) (fun _ _ _ _ _ => (pg_name (i := 4) scGC.nd rfl (Or.inl rfl))) (fun _ _ _ _ _ => pts_nil) (fun _ _ _ _ _ => (pe_cmpR op_gt (pe_dget hu (pv 2) (pv 4) (fun _ _ => rfl)) pe_int (nomark _))))))) (fun _ _ _ _ _ => (pv 3))) (pss_cons (ps_if (pt_cmpR op_eq (pe_callB call_len_seq (by rfl) T.len (by decide +kernel) (pa_cons (pv 5) pa_nil)) (pe_callB call_len_seq (by rfl) T.len (by decide +kernel) (pa_cons (pv 1) pa_nil)) (nomark _)) (pss_one (ps_ret (pv 5))) pss_nil) (pss_one (ps_set (i := 1) scGC.nd rfl (Or.inl rfl) (pv 5)))))))), ?_⟩
    refine ⟨fun m σ H' => Same H H' ∧ ∃ c' ks v2 v3 v4 v5, σ = [some (.ref tb), some (.ref c'), v2, v3, v4, v5] ∧ H' c' = some (.lst (ks.map nV)) ∧ Left TT cs ks ∧ m = ks.length, ⟨cs.length, Same.refl H, c, cs, none, none, none, none, rfl, hc, Left.refl _ _, rfl⟩, ?_⟩
    rintro m σ H1 ⟨S1, c1, ks, v2, v3, v4, v5, rfl, hc1, hk, rfl⟩
    have hks : ∀ x ∈ ks, x < TT.length := fun x hx => hin x (hk.sub.subset hx)
    have hkl : ks.length ≤ 40 := Nat.le_trans hk.sub.length_le hcl
    have row : ∀ {i : Nat} {g : Nat}, ks[i]? = some g → ∃ (p : Addr) (r : List Int), TT[g]? = some r ∧ TT.getD g [] = r ∧ ts[g]? = some p ∧ H1 p = some (.lst (r.map V.int)) ∧ r.length ≤ 20 := fun {i g} h => by
      have hg := hks g (List.mem_of_getElem? h)
      have e := List.getElem?_eq_getElem hg
      obtain ⟨p, h1, h2⟩ := (hL.mono S1).2 g _ e
      exact ⟨p, _, e, by rw [List.getD_eq_getElem?_getD, e]; rfl, h1, h2, hrl _ (List.getElem_mem hg)⟩
    refine ⟨true, rfl, iteT ?_⟩
    refine ⟨fun σ' H' => Same H H' ∧ ∃ c' ks' v2 v3 v4 v5, σ' = [some (.ref tb), some (.ref c'), v2, v3, v4, v5] ∧ H' c' = some (.lst (ks'.map nV)) ∧ Left TT cs ks' ∧ ks'.length < ks.length, ?_, ?_⟩
    · rintro σ' H' ⟨S, c', ks', v2, v3, v4, v5, rfl, h1, h2, h3⟩
      exact ⟨_, h3, S, c', ks', v2, v3, v4, v5, rfl, h1, h2, rfl⟩
    intro d hd
    have hdt : tb ≠ d := ne_of_none (S1 _ _ htb) hd
    have hdc : c1 ≠ d := ne_of_none hc1 hd
    -- the counts
    refine ⟨_, rfl, c1, rfl, ⟨_, SqL.of (by rw [upd_ne hdc]; exact hc1)⟩, for_list (a := c1) (xs := ks.map nV) (fun i σ H' => Kx d H1 H' ∧ ∃ kvs v3 v4, σ = [some (.ref tb), some (.ref c1), some (.ref d), v3, v4, v5] ∧ H' d = some (.dK kvs) ∧ CntD kvs (cnt TT (ks.take i)) ∧ kvs.length ≤ 20 * i)
      ⟨fun b o nb e => by rw [upd_ne nb]; exact e, [], v3, v4, rfl, upd_same, CntD.nil, Nat.zero_le _⟩ (fun i σ H' _ q => SqL.of (q.1 _ _ hdc hc1)) ?_ ?_⟩
    · rintro i x σ H2 hx ⟨K2, kvs, w3, w4, rfl, hd2, hC, hkv⟩
      have hi := (List.getElem?_eq_some_iff.mp hx).1
      rw [List.length_map] at hi
      obtain ⟨g, hg, rfl⟩ := nmap_of hx
      obtain ⟨p, r, hr0, hr1, hp, hpr, hr20⟩ := row hg
      have npd : p ≠ d := ne_of_none hpr hd
      refine ⟨_, rfl, _, rfl, tb, _, _, .ref p, rfl, rfl, SqL.of (K2 _ _ hdt (S1 _ _ htb)), atI_nat (by rw [List.getElem?_map, hp]; rfl), ?_⟩
      refine ⟨p, rfl, ⟨_, SqL.of (K2 _ _ npd hpr)⟩, for_list (a := p) (xs := r.map V.int) (fun j σ H' => Kx d H1 H' ∧ ∃ kvs v4, σ = [some (.ref tb), some (.ref c1), some (.ref d), some (.int (g : Int)), v4, v5] ∧ H' d = some (.dK kvs) ∧ CntD kvs (fun y => cnt TT (ks.take i) y + (r.take j).count y) ∧ kvs.length ≤ 20 * i + j)
        ⟨K2, kvs, w4, rfl, hd2, hC.congr (fun y => by simp), hkv⟩ (fun j σ H' _ q => SqL.of (q.1 _ _ npd hpr)) ?_ ?_⟩
      · rintro j x σ H3 hx ⟨K3, kvs3, w4, rfl, hd3, hC3, hkv3⟩
        have hj := (List.getElem?_eq_some_iff.mp hx).1
        rw [List.length_map] at hj
        obtain ⟨y, hy, rfl⟩ := map_of hx
        refine ⟨_, rfl, d, rfl, .inl ⟨kvs3, .inl hd3⟩, _, rfl, _, DGet.k (k := Sum.inl y) hd3, ?_⟩
        rw [hC3.get y]
        refine ⟨_, _, rfl, rfl, _, rfl, _, rfl, d, _, rfl, DPut.k (k := Sum.inl y) hd3 (small_line (by omega)), ?_⟩
        refine ⟨K3.trans Kx.upd, _, _, rfl, upd_same, hC3.put y (fun z => ?_), ?_⟩
        · rw [List.take_add_one, hy, List.count_append]
          show _ + (_ + List.count z [y]) = _
          rw [count_one]
          omega
        · exact Nat.le_trans (length_putK _ _ _) (by omega)
      · rintro σ H3 ⟨K3, kvs3, w4, rfl, hd3, hC3, hkv3⟩
        rw [List.length_map, List.take_length] at hC3
        rw [List.length_map] at hkv3
        refine ⟨K3, kvs3, _, _, rfl, hd3, hC3.congr (fun y => ?_), by omega⟩
        rw [List.take_add_one, hg]
        show cnt TT (ks.take i ++ [g]) y = _
        rw [cnt_snoc, hr1]
    rintro σ H2 ⟨K2, kvs, w3, w4, rfl, hd2, hC, _⟩
    rw [List.length_map, List.take_length] at hC
    have S2 : Same H H2 := fun b o e => K2 _ _ (ne_of_none (S1 _ _ e) hd) (S1 _ _ e)
    have hc2 := K2 _ _ hdc hc1
    -- what is kept
    refine ⟨_, rfl, c1, rfl, ⟨_, SqL.of hc2⟩, fun D hD => lc_sel (a := c1) (xs := ks.map nV) (fun i : Nat => (ks[i]?).bind fun c => if fits TT ks c = true then some (nV c) else none) (SqL.of hc2) hD (by rw [List.length_map]; omega) ?_ ?_⟩
    · rintro i x H3 Q3 hx S3 q
      obtain ⟨g, hg, rfl⟩ := nmap_of hx
      obtain ⟨p, r, hr0, hr1, hp, hpr, hr20⟩ := row hg
      have npd : p ≠ d := ne_of_none hpr hd
      have hp3 := S3 _ _ (K2 _ _ npd hpr)
      refine ⟨rfl, ?_⟩
      refine ⟨_, rfl, _, rfl, tb, _, _, .ref p, rfl, rfl, SqL.of (S3 _ _ (S2 _ _ htb)), atI_nat (by rw [List.getElem?_map, hp]; rfl), ?_⟩
      refine ⟨p, rfl, ⟨_, SqL.of hp3⟩, fun D2 hD2 => lc_map (a := p) (xs := r.map V.int) ((r.map fun y => decide (((cnt TT ks y : Nat) : Int) > 1)).map V.bl) (SqL.of hp3) hD2 (by simp) (by rw [List.length_map]; omega) (fun j x y H4 Q4 hx hy S4 q4 => ?_) (fun H4 S4 h4 => ?_)⟩
      · obtain ⟨x, hx', rfl⟩ := map_of hx
        have ey : y = .bl (decide (((cnt TT ks x : Nat) : Int) > 1)) := by
          rw [List.getElem?_map, List.getElem?_map, hx'] at hy
          exact (Option.some.inj hy).symm
        have hpos : cnt TT ks x ≠ 0 := by
          have h1 : x ∈ TT.getD g [] := by rw [hr1]; exact mem_get hx'
          have h2 := List.count_pos_iff.mpr h1
          have h3 := mem_le_sum (List.mem_map.mpr ⟨g, mem_get hg, rfl⟩ : (TT.getD g []).count x ∈ ks.map fun c => (TT.getD c []).count x)
          unfold cnt
          omega
        refine ⟨rfl, _, rfl, _, rfl, d, .int (cnt TT ks x : Int), rfl, ?_, _, _, rfl, rfl, ?_⟩
        · have := DGet.k (k := Sum.inl x) (S4 _ _ (S3 _ _ hd2))
          rw [hC x, if_neg hpos] at this
          exact this
        · rw [ey] at q4
          exact q4 H4 (Same.refl H4)
      · refine ⟨D2, _, rfl, SqL.of h4, _, rfl, ?_⟩
        have ef : (r.map fun y => decide (((cnt TT ks y : Nat) : Int) > 1)).all id = fits TT ks g := by
          unfold fits
          rw [hr1, List.all_map]
          congr 1
          funext y
          exact decide_eq_decide.mpr (by omega)
        rw [ef]
        have q5 := q H4 S4
        rw [hg] at q5
        have q5 : Q3 (if fits TT ks g = true then some (nV g) else none) H4 := q5
        cases hf : fits TT ks g with
        | true => rw [hf] at q5; exact iteT ⟨_, rfl, q5⟩
        | false => rw [hf] at q5; exact iteF q5
    rintro H3 S3 h3
    rw [List.length_map, sel_filter ks (fits TT ks) nV _ (Nat.le_refl _), List.take_length] at h3
    have h3 : H3 D = some (.lst ((stepC TT ks).map nV)) := h3
    refine ⟨_, rfl, D, _, rfl, .inl (SqL.of h3), _, rfl, c1, _, rfl, .inl (SqL.of (S3 _ _ hc2)), rfl, _, rfl, ?_⟩
    have hsl : (stepC TT ks).length ≤ ks.length := (List.filter_sublist).length_le
    rw [List.length_map, List.length_map]
    by_cases he : (stepC TT ks).length = ks.length
    · refine iteTb (by rw [he]; exact decide_eq_true rfl) ?_
      have hst : stepC TT ks = ks := (List.filter_sublist).eq_of_length he
      rw [hst] at h3
      exact ⟨_, rfl, k ks D H3 ((S2.free hD)) (S2.trans S3) hk hst h3⟩
    · refine iteFb (decide_eq_false fun z => he (by have := V.int.inj z; omega)) ?_
      exact ⟨_, rfl, S2.trans S3, D, stepC TT ks, _, _, _, _, rfl, h3, hk.step, by omega⟩
end
end RS
namespace RS
open PySem L2
theorem inV_int (v : Int) (os : List Int) : inV (.int v) (os.map V.int) = decide (v ∈ os) := by
  rw [Bool.eq_iff_iff, decide_eq_true_iff]
  unfold inV
  rw [List.any_eq_true]
  constructor
  · rintro ⟨y, hy, e⟩
    obtain ⟨z, hz, rfl⟩ := List.mem_map.mp hy
    have e : (z == v) = true := e
    rw [← eq_of_beq e]
    exact hz
  · intro h
    exact ⟨.int v, List.mem_map.mpr ⟨v, h, rfl⟩, (beq_self_eq_true v : (v == v) = true)⟩
theorem flat_ints (os : List Int) : (os.map V.int).all flatV = true := by
  rw [List.all_eq_true]
  intro x hx
  obtain ⟨z, _, rfl⟩ := List.mem_map.mp hx
  rfl
theorem nV_ints (xs : List Nat) : xs.map nV = (xs.map fun n : Nat => (n : Int)).map V.int := by
  rw [List.map_map]
  rfl
/-! ### partners -/
def near (T : List (List Int)) (M : List Nat) (c : Nat) (r : Int) : List Nat := M.filter fun o => decide (o ≠ c) && decide (r ∈ T.getD o [])
def mates (T : List (List Int)) (M : List Nat) (c : Nat) : List Nat := (T.getD c []).map fun r => (near T M c r).headD 0
theorem head_least {xs : List Nat} (h : xs.Pairwise (· < ·)) {m : Nat} (hm : m ∈ xs) (hl : ∀ y ∈ xs, m ≤ y) : xs.headD 0 = m := by
  cases xs with
  | nil => cases hm
  | cons x r =>
    rcases List.mem_cons.mp hm with rfl | hm
    · rfl
    · have h1 := (List.pairwise_cons.mp h).1 m hm
      have h2 := hl x (List.mem_cons_self ..)
      omega
section
variable {P : Program} {w : World} {K : PySem.W.Frag} {mg : Str → Option Value} {base : Heap}
def spPart : Sp := fun vs H Q _ => ∃ (tb ms : Addr) (ts : List Addr) (T : List (List Int)) (M : List Nat) (c : Nat), vs = [.ref tb, .int (c : Int), .ref ms] ∧ H tb = some (.lst (ts.map V.ref)) ∧ LsAt H ts T ∧ H ms = some (.lst (M.map nV)) ∧ (∀ x ∈ M, x < T.length) ∧ c < T.length ∧ M.Pairwise (· < ·) ∧ M.length ≤ 40 ∧ (∀ r ∈ T, r.length ≤ 20) ∧
  (∀ r ∈ T.getD c [], near T M c r ≠ []) ∧ ∀ q H', H q = none → Same H H' → H' q = some (.tup ((mates T M c).map nV)) → Q (.ref q) H'
def paN : List Str := ["table", "client", "clients", "others", "other", "residue"]
theorem scPart : FnScope paN ["table", "client", "clients"] (defScope s_partners) := ⟨rfl, rfl, rfl, by decide +kernel, rfl, by decide +kernel, by decide +kernel⟩
def scPa1 : Scope := { kind := .function, names := [(".0", .local), ("residue", .cell), ("min", .globalImplicit), ("others", .cell), ("table", .cell)], isGenerator := false, isCoroutine := false }
theorem ok_part {f C : Addr} {fd : FuncData} (F : Fun K "_partners" "_partners" s_partners f fd) (T : Txt K mg C) : FnOk P w K mg base CX0 1 f fd ["table", "client", "clients"] spPart := by
  refine F.ok scPart (fun vs H Q E h => ?_) (fun cdv A outer s H vs Q E hr h => ?_)
  · obtain ⟨tb, ms, ts, TT, M, c, rfl, _⟩ := h
    rfl
  · obtain ⟨tb, ms, ts, TT, M, c, rfl, htb, hL, hms, hin, hct, hpw, hml, hrl, hne, k⟩ := h
    refine ⟨_, (pss_cons (ps_set (i := 3) scPart.nd rfl (Or.inr rfl) (pe_lc (own := [("other", 4)]) (g := gName 4) rfl scPart.nd (pi_list (pv 2)) (blkOk_by (own := [("other", 4)]) (N := paN) (sc := (defScope s_partners)) (by decide +kernel)) (fun _ _ _ _ _ => (pg_name (i := 4) scPart.nd rfl (Or.inl rfl))) (fun _ _ _ _ _ => pts_one (pt_cmpR op_ne (pv 4) (pv 1) (nomark _))) (fun _ _ _ _ _ => (pv 4)))) (pss_one (ps_ret (pe_callTy call_tuple_of (by rfl) T.tuple (by decide +kernel) (pa_cons (pe_lc (own := [("residue", 5)]) (g := gName 5) (tt := tYes) rfl scPart.nd (pi_list (pe_ix ix_list (pv 0) (pv 1) (fun _ _ => rfl))) (blkOk_by (own := [("residue", 5)]) (N := paN) (sc := defScope s_partners) (by decide +kernel)) (fun _ _ _ _ _ => (pg_name (i := 5) scPart.nd rfl (Or.inr rfl))) (fun _ _ _ _ _ => pts_nil) (fun _ _ _ _ _ =>
        (pe_minK K (by rfl) rfl (by rfl) T.min (pe_lc (own := [("other", 4)]) (g := gName 4) rfl scPart.nd (pi_listK K (by rfl) (pv 3)) (blkOk_by (own := [("other", 4)]) (N := paN) (sc := scPa1) (by decide +kernel)) (fun _ _ _ _ _ => (pg_name (i := 4) scPart.nd rfl (Or.inl rfl))) (fun _ _ _ _ _ => pts_one (pt_cmpR (r := rIn K false) op_in_seq (pv 5) (pe_ixK K (by rfl) (pv 0) (pv 4)) (by rfl))) (fun _ _ _ _ _ => (pv 4)))))) pa_nil))))), ?_⟩
    refine ⟨_, rfl, ms, rfl, ⟨_, SqL.of hms⟩, fun D hD => lc_sel (a := ms) (xs := M.map nV) (fun i : Nat => (M[i]?).bind fun o => if decide (o ≠ c) = true then some (nV o) else none) (SqL.of hms) hD (by rw [List.length_map]; omega) ?_ ?_⟩
    · rintro i x H1 Q1 hx S1 q
      obtain ⟨g, hg, rfl⟩ := nmap_of hx
      refine ⟨rfl, _, rfl, _, rfl, rfl, _, rfl, ?_⟩
      have q5 := q H1 (Same.refl H1)
      rw [hg] at q5
      have q5 : Q1 (if decide (g ≠ c) = true then some (nV g) else none) H1 := q5
      by_cases e : g = c
      · refine iteFb (by rw [e]; show (!decide (V.int (c : Int) = V.int (c : Int))) = false; rw [decide_eq_true rfl]; rfl) ?_
        rw [decide_eq_false (fun z => z e)] at q5
        exact q5
      · refine iteTb (by show (!decide (V.int (g : Int) = V.int (c : Int))) = true; rw [decide_eq_false (fun z => e (by have := V.int.inj z; omega))]; rfl) ⟨_, rfl, ?_⟩
        rw [decide_eq_true e] at q5
        exact q5
    rintro H1 S1 h1
    rw [List.length_map, sel_filter M (fun o => decide (o ≠ c)) nV _ (Nat.le_refl _), List.take_length] at h1
    generalize hO : M.filter (fun o => decide (o ≠ c)) = O at h1
    have hOs : O.Sublist M := by rw [← hO]; exact List.filter_sublist
    have hnear : ∀ r, near TT M c r = O.filter fun o => decide (r ∈ TT.getD o []) := fun r => by
      rw [← hO, List.filter_filter]
      unfold near
      congr 1
      funext o
      exact Bool.and_comm _ _
    have row : ∀ {H2 : Hp} {g : Nat}, Same H H2 → g < TT.length → ∃ (p : Addr) (r : List Int), TT.getD g [] = r ∧ ts[g]? = some p ∧ H2 p = some (.lst (r.map V.int)) ∧ r.length ≤ 20 := fun {H2 g} S hg => by
      have e := List.getElem?_eq_getElem hg
      obtain ⟨p, h1, h2⟩ := (hL.mono S).2 g _ e
      exact ⟨p, _, by rw [List.getD_eq_getElem?_getD, e]; rfl, h1, h2, hrl _ (List.getElem_mem hg)⟩
    obtain ⟨p, r, hr1, hp, hpr, hr20⟩ := row S1 hct
    refine ⟨_, rfl, _, rfl, tb, _, _, .ref p, rfl, rfl, SqL.of (S1 _ _ htb), atI_nat (by rw [List.getElem?_map, hp]; rfl), ?_⟩
    have hml2 : (mates TT M c).length = r.length := by unfold mates; rw [hr1, List.length_map]
    refine ⟨p, rfl, ⟨_, SqL.of hpr⟩, fun D2 hD2 => lc_map (a := p) (xs := r.map V.int) ((mates TT M c).map nV) (SqL.of hpr) hD2 (by rw [List.length_map, List.length_map, hml2]) (by rw [List.length_map]; omega) (fun j x y H2 Q2 hx hy S2 q2 => ?_) (fun H2 S2 h2 => ?_)⟩
    · obtain ⟨x, hx', rfl⟩ := map_of hx
      have hxm : x ∈ TT.getD c [] := by rw [hr1]; exact mem_get hx'
      have ey : y = nV ((near TT M c x).headD 0) := by
        unfold mates at hy
        rw [List.getElem?_map, List.getElem?_map, hr1, hx'] at hy
        exact (Option.some.inj hy).symm
      have S12 := S1.trans S2
      refine ⟨rfl, _, rfl, D, rfl, ⟨_, SqL.of (S2 _ _ h1)⟩, fun D3 hD3 => lc_sel (a := D) (xs := O.map nV) (fun i : Nat => (O[i]?).bind fun o => if decide (x ∈ TT.getD o []) = true then some (nV o) else none) (SqL.of (S2 _ _ h1)) hD3 (by rw [List.length_map]; have := hOs.length_le; omega) ?_ ?_⟩
      · rintro i z H3 Q3 hz S3 q
        obtain ⟨g, hg, rfl⟩ := nmap_of hz
        obtain ⟨po, ro, hro, hpo, hpro, _⟩ := row (S12.trans S3) (hin g (hOs.subset (mem_get hg)))
        refine ⟨rfl, _, rfl, _, rfl, _, rfl, tb, _, _, .ref po, rfl, rfl, SqL.of (S3 _ _ (S12 _ _ htb)), atI_nat (by rw [List.getElem?_map, hpo]; rfl), po, _, rfl, .inl (SqL.of hpro), rfl, flat_ints _, _, rfl, ?_⟩
        have q5 := q H3 (Same.refl H3)
        rw [hg] at q5
        have q5 : Q3 (if decide (x ∈ TT.getD g []) = true then some (nV g) else none) H3 := q5
        rw [hro] at q5
        show if inV (V.int x) (ro.map V.int) = true then _ else _
        rw [inV_int]
        by_cases e : x ∈ ro
        · rw [decide_eq_true e] at q5 ⊢
          exact iteT ⟨_, rfl, q5⟩
        · rw [decide_eq_false e] at q5 ⊢
          exact iteF q5
      · rintro H3 S3 h3
        rw [List.length_map, sel_filter O (fun o => decide (x ∈ TT.getD o [])) nV _ (Nat.le_refl _), List.take_length, ← hnear x, nV_ints] at h3
        have hne2 := hne x hxm
        refine ⟨D3, _, rfl, SqL.of h3, by rw [List.length_map]; exact List.length_pos_iff.mpr hne2, fun m hm hle => ?_⟩
        obtain ⟨n, hn, rfl⟩ := List.mem_map.mp hm
        have hh := head_least (hpw.sublist List.filter_sublist) hn (fun y hy => by have := hle (y : Int) (List.mem_map.mpr ⟨y, hy, rfl⟩); omega)
        have hh : (near TT M c x).headD 0 = n := hh
        rw [ey, hh] at q2
        exact q2 H3 S3
    · exact ⟨D2, _, rfl, .inl ⟨SqL.of h2, fun q hq => k q _ (S1.free (S2.free hq)) ((S1.trans S2).trans (same_new hq)) upd_same⟩⟩
end
end RS
namespace RS
open PySem L2
/-! ### lists of ints as data -/
theorem ints_dp {K : PySem.W.Frag} {H : Hp} : ∀ ns : List Int, DpAll K H (ns.map V.int) (ns.map PyData.int)
  | [] => .nil
  | n :: r => .cons (.int n) (ints_dp r)
theorem list_dp {K : PySem.W.Frag} {H : Hp} {a : Addr} {ns : List Int} (h : SqL K H a (ns.map V.int)) : Dp K H (.ref a) (.list (ns.map PyData.int)) := .lst h (ints_dp ns)
theorem list_eqv (ns ms : List Int) : PyData.eqv (.list (ns.map PyData.int)) (.list (ms.map PyData.int)) = decide (ns = ms) := PySem.W.ked_eqvAll ns ms
end RS
namespace RS
open PySem L2
section
variable {P : Program} {w : World} {K : PySem.W.Frag} {mg : Str → Option Value} {base : Heap}
/-! ### the checks -/
def spCkR (C : Addr) : Sp := fun vs H Q _ => ∃ (p g t o : Addr) (gs : List Int) (m : Nat), vs = [.ref p] ∧ RuleAt C H p g t o gs (.rep m) ∧ Q .non H
theorem scCkR : FnScope ["rule"] ["rule"] (defScope s_check_repeating) := ⟨rfl, rfl, rfl, by decide +kernel, rfl, by decide +kernel, by decide +kernel⟩
theorem ok_ckR {f C fR : Addr} {fd fdR : FuncData} (F : Fun K "_check_repeating" "_check_repeating" s_check_repeating f fd) (T : Txt K mg C) (GR : FnOk P w K mg base CX0 1 fR fdR ["self"] (spFR C)) (bR : Binds K fdR ["self"] []) (mR : Meth K C "first_repeating" fR) : FnOk P w K mg base CX0 2 f fd ["rule"] (spCkR C) := by
  refine F.ok scCkR (fun vs H Q E h => ?_) (fun cdv A outer s H vs Q E hr h => ?_)
  · obtain ⟨p, g, t, o, gs, m, rfl, _⟩ := h
    rfl
  · obtain ⟨p, g, t, o, gs, m, rfl, R, k⟩ := h
    refine ⟨_, (pss_one (ps_if (pt_cmpR op_isN (pe_meth0 (pv 0) T.cl mR GR hr bR .nil pass0) pe_non (nomark _)) (pss_one ps_never) pss_nil)), ?_⟩
    obtain ⟨dx, hob⟩ := R.ob
    exact ⟨_, rfl, p, dx, _, rfl, hob, flds_no _ _ _ (by decide +kernel) (by decide +kernel) (by decide +kernel), p, g, t, o, gs, m, rfl, R, rfl, _, rfl, iteFb (decide_eq_false fun e => nomatch e) k⟩
def spCkL (C : Addr) : Sp := fun vs H Q _ => ∃ (p g t o b : Addr) (gs : List Int) (m : Nat) (bs : List Int), vs = [.ref p, .ref b] ∧ RuleAt C H p g t o gs (.rep m) ∧ H b = some (.lst (bs.map V.int)) ∧ 1 ≤ bs.length ∧ bs.length ≤ 40 ∧ ∀ H', Same H H' → Q .non H'
theorem scCkL : FnScope ["rule", "starts"] ["rule", "starts"] (defScope s_check_clients) := ⟨rfl, rfl, rfl, by decide +kernel, rfl, by decide +kernel, by decide +kernel⟩
theorem ok_ckL {f C fR fS : Addr} {fd fdR fdS : FuncData} (F : Fun K "_check_clients" "_check_clients" s_check_clients f fd) (T : Txt K mg C) (GR : FnOk P w K mg base CX0 2 fR fdR ["rule"] (spCkR C)) (bR : Binds K fdR ["rule"] []) (mR : mg "_check_repeating" = some (.ref fR)) (kR : PySem.W.keepIn K (.ref fR) = true)
    (GS : FnOk P w K mg base CX0 2 fS fdS ["value", "fewest"] spChS) (bS : Binds K fdS ["value", "fewest"] []) (mS : mg "check_starts" = some (.ref fS)) (kS : PySem.W.keepIn K (.ref fS) = true) : FnOk P w K mg base CX0 3 f fd ["rule", "starts"] (spCkL C) := by
  refine F.ok scCkL (fun vs H Q E h => ?_) (fun cdv A outer s H vs Q E hr h => ?_)
  · obtain ⟨p, g, t, o, b, gs, m, bs, rfl, _⟩ := h
    rfl
  · obtain ⟨p, g, t, o, b, gs, m, bs, rfl, R, hb, h1, h40, k⟩ := h
    refine ⟨_, (pss_cons (ps_expr (pe_call GR hr rfl mR kR bR .nil pass0 (pa_cons (pv 0) pa_nil))) (pss_one (ps_expr (pe_call GS hr rfl mS kS bS .nil pass0 (pa_cons (pv 1) (pa_cons pe_int pa_nil)))))), ?_⟩
    exact ⟨_, rfl, p, g, t, o, gs, m, rfl, R, _, rfl, b, bs, 1, rfl, hb, h1, h40, fun H' S => k H' S⟩
end
end RS
namespace RS
open PySem L2
/-! ### residues of one client differ -/
theorem resid_nodup {gs : List Int} {m : Nat} (okG : GapsOk gs) (h1 : 1 ≤ m) (h2 : m ≤ gs.length) (s : Int) : (resid gs m s).Nodup := by
  unfold resid repOffs
  rw [List.map_map]
  refine List.pairwise_map.mpr ((List.pairwise_lt_range (n := m)).imp_of_mem fun {i j} hi hj hij => ?_)
  have hi := List.mem_range.mp hi
  have hj := List.mem_range.mp hj
  show (s + pre gs (gs.length - m + i)) % per gs m ≠ (s + pre gs (gs.length - m + j)) % per gs m
  intro e
  have a := pre_mono okG (gs.length - m + i) (j - i) (by omega)
  rw [show gs.length - m + i + (j - i) = gs.length - m + j by omega] at a
  have b := pre_mono okG (gs.length - m) i (by omega)
  have c := pre_mono okG (gs.length - m + j) (m - j) (by omega)
  rw [show gs.length - m + j + (m - j) = gs.length by omega] at c
  have hp : per gs m = pre gs gs.length - pre gs (gs.length - m) := rfl
  have d := Int.emod_eq_emod_iff_emod_sub_eq_zero.mp e.symm
  rw [Int.emod_eq_of_lt (by omega) (by omega)] at d
  omega
theorem tab_get {gs : List Int} {m : Nat} {bs : List Int} {c : Nat} {r : List Int} (h : (bs.map (resid gs m))[c]? = some r) : ∃ s, bs[c]? = some s ∧ r = resid gs m s := by
  rw [List.getElem?_map] at h
  cases e : bs[c]? with
  | none => rw [e] at h; cases h
  | some s => rw [e] at h; exact ⟨s, rfl, (Option.some.inj h).symm⟩
theorem near_ne {T : List (List Int)} {ks : List Nat} {c : Nat} {r : Int} (hn : ks.Nodup) (hc : c ∈ ks) (hf : fits T ks c = true) (hd : (T.getD c []).Nodup) (hr : r ∈ T.getD c []) : near T ks c r ≠ [] := by
  have h1 := of_decide_eq_true (List.all_eq_true.mp hf r hr)
  have e := ((List.perm_cons_erase hc).map fun c => (T.getD c []).count r).sum_nat
  rw [List.map_cons, List.sum_cons, hd.count, if_pos hr] at e
  have h1 : 1 < (ks.map fun c => (T.getD c []).count r).sum := h1
  intro z
  have h0 : ((ks.erase c).map fun c => (T.getD c []).count r).sum = 0 := by
    refine List.sum_eq_zero_iff_forall_eq_nat.mpr fun x hx => ?_
    obtain ⟨o, ho, rfl⟩ := List.mem_map.mp hx
    refine List.count_eq_zero.mpr fun hm => ?_
    have hoc : o ≠ c := fun q => by
      rw [q] at ho
      exact (List.Nodup.mem_erase_iff hn).mp ho |>.1 rfl
    have : o ∈ near T ks c r := List.mem_filter.mpr ⟨List.mem_of_mem_erase ho, by rw [decide_eq_true hoc, decide_eq_true hm]; rfl⟩
    rw [z] at this
    cases this
  omega
/-! ### lists of pairs of an int and a tuple of ints -/
inductive PrT (H : Hp) : List V → List (Nat × List Nat) → Prop
  | nil : PrT H [] []
  | cons {t pt : Addr} {c : Nat} {ms : List Nat} {rs : List V} {ds : List (Nat × List Nat)} : H t = some (.tup [.int (c : Int), .ref pt]) → H pt = some (.tup (ms.map nV)) → PrT H rs ds → PrT H (.ref t :: rs) ((c, ms) :: ds)
theorem PrT.mono {H H' : Hp} {rs : List V} {ds : List (Nat × List Nat)} (h : PrT H rs ds) (S : Same H H') : PrT H' rs ds := by
  induction h with
  | nil => exact .nil
  | cons a b _ ih => exact .cons (S _ _ a) (S _ _ b) ih
theorem PrT.off {H : Hp} {rs : List V} {ds : List (Nat × List Nat)} {D : Addr} {xs : List V} {o : HO} (h : PrT H rs ds) (hD : H D = some (.lst xs)) : PrT (upd H D o) rs ds := by
  induction h with
  | nil => exact .nil
  | cons a b _ ih => exact .cons (by rw [upd_ne (ne_of a hD (by intro z; cases z))]; exact a) (by rw [upd_ne (ne_of b hD (by intro z; cases z))]; exact b) ih
theorem PrT.snoc {H : Hp} {rs : List V} {ds : List (Nat × List Nat)} {t pt : Addr} {c : Nat} {ms : List Nat} (h : PrT H rs ds) (a : H t = some (.tup [.int (c : Int), .ref pt])) (b : H pt = some (.tup (ms.map nV))) : PrT H (rs ++ [.ref t]) (ds ++ [(c, ms)]) := by
  induction h with
  | nil => exact .cons a b .nil
  | cons a' b' _ ih => exact .cons a' b' ih
theorem PrT.len {H : Hp} {rs : List V} {ds : List (Nat × List Nat)} (h : PrT H rs ds) : rs.length = ds.length := by
  induction h with
  | nil => rfl
  | cons _ _ _ ih => simp [ih]
def prD (d : Nat × List Nat) : PyData := .tuple [.int (d.1 : Int), .tuple ((d.2.map fun n : Nat => (n : Int)).map PyData.int)]
theorem PrT.dp {K : PySem.W.Frag} {H : Hp} {rs : List V} {ds : List (Nat × List Nat)} (h : PrT H rs ds) : DpAll K H rs (ds.map prD) := by
  induction h with
  | nil => exact .nil
  | cons a b _ ih =>
    refine .cons (.tup (SqT.of a) (.cons (.int _) (.cons (.tup (SqT.of b) ?_) .nil))) ih
    rw [nV_ints]
    exact ints_dp _
theorem int_can : ∀ ns : List Int, PyData.canLayAll0 (ns.map PyData.int) = true
  | [] => rfl
  | n :: r => by
    show (PyData.canLay0 _ && PyData.canLayAll0 (r.map PyData.int)) = true
    rw [int_can r]
    rfl
theorem int_depth : ∀ ns : List Int, PyData.depthAll (ns.map PyData.int) = 0
  | [] => rfl
  | n :: r => by
    show max 0 (PyData.depthAll (r.map PyData.int)) = 0
    rw [int_depth r]
    rfl
theorem prD_can : ∀ ds : List (Nat × List Nat), PyData.canLayAll0 (ds.map prD) = true
  | [] => rfl
  | d :: r => by
    show (PyData.canLay0 (prD d) && PyData.canLayAll0 (r.map prD)) = true
    rw [prD_can r, Bool.and_true]
    show (true && (PyData.canLayAll0 ((d.2.map fun n : Nat => (n : Int)).map PyData.int) && true)) = true
    rw [int_can]
    rfl
theorem prD_depth : ∀ ds : List (Nat × List Nat), PyData.depthAll (ds.map prD) ≤ 2
  | [] => by decide
  | d :: r => by
    have ih := prD_depth r
    have e := int_depth (d.2.map fun n : Nat => (n : Int))
    show max (max 0 (max (PyData.depthAll ((d.2.map fun n : Nat => (n : Int)).map PyData.int) + 1) 0) + 1) (PyData.depthAll (r.map prD)) ≤ 2
    omega
theorem prD_shaped (ds : List (Nat × List Nat)) : SeqAt.shaped (.list (ds.map prD)) = true := by
  show (PyData.canLayAll0 (ds.map prD) && decide (PyData.depthAll (ds.map prD) + 1 ≤ 64)) = true
  rw [prD_can, decide_eq_true (by have := prD_depth ds; omega)]
  rfl
theorem prD_refl : ∀ ds : List (Nat × List Nat), PyData.eqvAll (ds.map prD) (ds.map prD) = true
  | [] => rfl
  | d :: r => by
    have e : PyData.eqvAll ((d.2.map fun n : Nat => (n : Int)).map PyData.int) ((d.2.map fun n : Nat => (n : Int)).map PyData.int) = true := by rw [PySem.W.ked_eqvAll, decide_eq_true rfl]
    have ih := prD_refl r
    simp [prD, PyData.eqvAll, PyData.eqv, ih] at e ⊢
    exact e
section
variable {P : Program} {w : World} {K : PySem.W.Frag} {mg : Str → Option Value} {base : Heap}
/-- the greatest closed set, by its properties -/
structure Great (T : List (List Int)) (n : Nat) (ks : List Nat) : Prop where
  pw : ks.Pairwise (· < ·)
  lt : ∀ x ∈ ks, x < n
  cl : ClosedS T ks
  all : ∀ M, ClosedS T M → M.Nodup → (∀ x ∈ M, x < n) → ∀ x ∈ M, x ∈ ks
theorem great_of {T : List (List Int)} {n : Nat} {ks : List Nat} (h : Left T (List.range n) ks) (e : stepC T ks = ks) : Great T n ks :=
  ⟨List.pairwise_lt_range.sublist h.sub, fun x hx => List.mem_range.mp (h.sub.subset hx), step_closed e, fun M hc hn hl => h.all M hc hn fun x hx => List.mem_range.mpr (hl x hx)⟩
def tabOf (gs : List Int) (m : Nat) (bs : List Int) : List (List Int) := bs.map (resid gs m)
theorem tab_rows {gs : List Int} {m : Nat} {bs : List Int} (h : m ≤ 20) : ∀ r ∈ tabOf gs m bs, r.length ≤ 20 := fun r hr => by
  obtain ⟨s, _, rfl⟩ := List.mem_map.mp hr
  rw [resid_len]
  exact h
def blkOf (T : List (List Int)) (ks : List Nat) : List (Nat × List Nat) := ks.map fun c => (c, mates T ks c)
def spBlk (K : PySem.W.Frag) (C : Addr) : Sp := fun vs H Q _ => ∃ (p g t o b : Addr) (gs : List Int) (m : Nat) (bs : List Int), vs = [.ref p, .ref b] ∧ RuleAt C H p g t o gs (.rep m) ∧ H b = some (.lst (bs.map V.int)) ∧ 1 ≤ bs.length ∧ bs.length ≤ 40 ∧
  ∀ ks q rs H', H q = none → Same H H' → Great (tabOf gs m bs) bs.length ks → H' q = some (.lst rs) → PrT H' rs (blkOf (tabOf gs m bs) ks) → Q (.ref q) H'
def blN : List Str := ["rule", "starts", "table", "clients", "client"]
theorem scBlk : FnScope blN ["rule", "starts"] (defScope s_blocked_clients) := ⟨rfl, rfl, rfl, by decide +kernel, rfl, by decide +kernel, by decide +kernel⟩
theorem ok_blk {f C fC fT fG fP : Addr} {fd fdC fdT fdG fdP : FuncData} (F : Fun K "blocked_clients" "blocked_clients" s_blocked_clients f fd) (T : Txt K mg C) (GC : FnOk P w K mg base CX0 3 fC fdC ["rule", "starts"] (spCkL C)) (bC : Binds K fdC ["rule", "starts"] []) (mC : mg "_check_clients" = some (.ref fC)) (kC : PySem.W.keepIn K (.ref fC) = true)
    (GT : FnOk P w K mg base CX0 5 fT fdT ["rule", "starts"] (spTab C)) (bT : Binds K fdT ["rule", "starts"] []) (mT : mg "_residue_table" = some (.ref fT)) (kT : PySem.W.keepIn K (.ref fT) = true)
    (GG : FnOk P w K mg base CX0 1 fG fdG ["table", "clients"] spGC) (bG : Binds K fdG ["table", "clients"] []) (mG : mg "_greatest_closed" = some (.ref fG)) (kG : PySem.W.keepIn K (.ref fG) = true)
    (GP : FnOk P w K mg base CX0 1 fP fdP ["table", "client", "clients"] spPart) (bP : Binds K fdP ["table", "client", "clients"] []) (mP : mg "_partners" = some (.ref fP)) (kP : PySem.W.keepIn K (.ref fP) = true) :
    FnOk P w K mg base CX0 6 f fd ["rule", "starts"] (spBlk K C) := by
  refine F.ok scBlk (fun vs H Q E h => ?_) (fun cdv A outer s H vs Q E hr h => ?_)
  · obtain ⟨p, g, t, o, b, gs, m, bs, rfl, _⟩ := h
    rfl
  · obtain ⟨p, g, t, o, b, gs, m, bs, rfl, R, hb, h1, h40, k⟩ := h
    have hr1 := hr.mono (show 1 ≤ 5 by decide)
    have hm1 : 1 ≤ m := R.okT.1
    have hm2 : m ≤ gs.length := R.okT.2
    have hg20 := R.okG.1
    refine ⟨_, (pss_cons (ps_expr (pe_call GC (hr.mono (by decide)) rfl mC kC bC .nil pass0 (pa_cons (pv 0) (pa_cons (pv 1) pa_nil)))) (pss_cons (ps_set (i := 2) scBlk.nd rfl (Or.inr rfl) (pe_call GT hr rfl mT kT bT .nil pass0 (pa_cons (pv 0) (pa_cons (pv 1) pa_nil)))) (pss_cons (ps_set (i := 3) scBlk.nd rfl (Or.inr rfl) (pe_call GG hr1 rfl mG kG bG .nil pass0 (pa_cons (pv 2) (pa_cons (pe_listRg rfl (by rfl) T.list (prg_1 (by rfl) T.range (pe_callB call_len_seq (by rfl) T.len (by decide +kernel) (pa_cons (pv 1) pa_nil)))) pa_nil)))) (pss_one (ps_ret (pe_lc (own := [("client", 4)]) (g := gName 4) (tt := tYes) rfl scBlk.nd (pi_list (pv 3)) (blkOk_by (own := [("client", 4)]) (N := blN) (sc := (defScope s_blocked_clients)) (by decide +kernel)) (fun _ _ _ _ _ => (pg_name (i := 4) scBlk.nd rfl (Or.inl rfl))) (fun _ _ _ _ _ => pts_nil) (fun _ _ _ _ _ => (pe_tup (pa_cons (pv 4) (pa_cons (pe_call GP hr1 rfl mP kP bP .nil pass0 (pa_cons (pv 2) (pa_cons (pv 4) (pa_cons (pv 3) pa_nil)))) pa_nil)))))))))), ?_⟩
    refine ⟨_, rfl, _, rfl, p, g, t, o, b, gs, m, bs, rfl, R, hb, h1, h40, fun H1 S1 => ?_⟩
    refine ⟨_, rfl, _, rfl, p, g, t, o, b, gs, m, bs, rfl, R.mono S1, S1 _ _ hb, by omega, fun tb ts H2 htb S2 htb2 hL => ?_⟩
    have S12 := S1.trans S2
    have hb2 := S12 _ _ hb
    refine ⟨_, rfl, _, rfl, b, _, rfl, .inl (SqL.of hb2), _, rfl, ?_⟩
    refine ⟨RgOk.of_le (by omega) (by rw [List.length_map]; omega) (by omega) (by omega), fun l hl => ?_⟩
    have S3 := same_new (o := .lst (rgV 0 ((bs.map V.int).length : Int))) hl
    have er : rgV 0 ((bs.map V.int).length : Int) = (List.range bs.length).map nV := by
      unfold rgV
      rw [List.length_map, Int.sub_zero, Int.toNat_natCast]
      refine List.map_congr_left fun i _ => ?_
      show V.int (0 + (i : Int)) = V.int (i : Int)
      rw [Int.zero_add]
    have hl3 := upd_same (H := H2) (a := l) (o := .lst (rgV 0 ((bs.map V.int).length : Int)))
    rw [er] at hl3 S3 ⊢
    have hTl : (tabOf gs m bs).length = bs.length := by unfold tabOf; rw [List.length_map]
    refine ⟨tb, l, ts, tabOf gs m bs, List.range bs.length, rfl, S3 _ _ htb2, LsAt.mono hL S3, hl3, fun x hx => by rw [hTl]; exact List.mem_range.mp hx, by rw [List.length_range]; exact h40, tab_rows (by omega), fun ks q H4 hq S4 hleft hst hq4 => ?_⟩
    have G := great_of hleft hst
    have S34 := S3.trans S4
    have S14 := S12.trans S34
    have hkl : ks.length ≤ 40 := by have := hleft.sub.length_le; rw [List.length_range] at this; omega
    refine ⟨_, rfl, q, rfl, ⟨_, SqL.of hq4⟩, fun D hD => lc_list (a := q) (xs := ks.map nV) (fun i H' => Same H4 H' ∧ ∃ rs, H' D = some (.lst rs) ∧ PrT H' rs ((blkOf (tabOf gs m bs) ks).take i)) ⟨same_app hD (fun _ _ e => e), [], upd_same, .nil⟩ (fun i H' _ z => z.1.seq (SqL.of hq4)) (fun i x H5 hx z => ?_) (fun H5 z => ?_)⟩
    · obtain ⟨S5, rs, hrs, hP⟩ := z
      obtain ⟨c, hc, rfl⟩ := nmap_of hx
      have hcm := mem_get hc
      have hct : c < (tabOf gs m bs).length := by rw [hTl]; exact G.lt c hcm
      have S45 := S34.trans S5
      have eT := List.getElem?_eq_getElem hct
      obtain ⟨s0, _, es⟩ := tab_get (gs := gs) (m := m) (bs := bs) eT
      have hrow : ((tabOf gs m bs).getD c []).Nodup := by
        rw [List.getD_eq_getElem?_getD, eT]
        show ((tabOf gs m bs)[c]).Nodup
        rw [es]
        exact resid_nodup R.okG hm1 hm2 s0
      have hnd : ks.Nodup := G.pw.imp fun h => by omega
      refine ⟨rfl, yes_t (iteT ?_)⟩
      refine ⟨_, rfl, _, rfl, _, rfl, _, rfl, tb, q, ts, tabOf gs m bs, ks, c, rfl, S45 _ _ htb2, LsAt.mono hL S45, S5 _ _ hq4, fun x hx => by rw [hTl]; exact G.lt x hx, hct, G.pw, hkl, tab_rows (by omega), fun r hr => near_ne hnd hcm (G.cl c hcm) hrow hr, fun pt H6 hpt S6 hpt6 => ?_⟩
      refine ⟨by show 2 ≤ sizeLine; decide, fun t2 ht2 => ?_⟩
      have S7 := S6.trans (same_new (o := .tup [V.int (c : Int), .ref pt]) ht2)
      have hD7 := S7 _ _ hrs
      have hlen := hP.len
      refine ⟨rs, hD7, small_line (by rw [hlen, List.length_take]; unfold blkOf; rw [List.length_map]; omega), same_app hD (S5.trans S7), _, upd_same, ?_⟩
      have hgi : (blkOf (tabOf gs m bs) ks)[i]? = some (c, mates (tabOf gs m bs) ks c) := by
        unfold blkOf
        rw [List.getElem?_map, hc]
        rfl
      rw [List.take_add_one, hgi]
      exact ((hP.mono S7).snoc upd_same (same_new ht2 _ _ hpt6)).off hD7
    · obtain ⟨S5, rs, hrs, hP⟩ := z
      rw [List.length_map, show ks.length = (blkOf (tabOf gs m bs) ks).length by unfold blkOf; rw [List.length_map], List.take_length] at hP
      exact k ks D rs H5 (S14.free hD) (S14.trans S5) G hrs hP
end
end RS
namespace RS
open PySem L2
/-! ### slices -/
theorem cut_to (xs : List V) (n : Nat) : cutV xs none (some (n : Int)) = xs.take n := by
  unfold cutV
  rw [HT.sIx_none, HT.sIx_nat, List.drop_zero, Nat.sub_zero]
  by_cases h : n ≤ xs.length
  · rw [Nat.min_eq_left h]
  · rw [Nat.min_eq_right (by omega), List.take_length, List.take_of_length_le (by omega)]
theorem cut_mid (xs : List V) (i n : Nat) : cutV xs (some (i : Int)) (some (n : Int)) = (xs.drop i).take (n - i) := by
  unfold cutV
  rw [HT.sIx_nat, HT.sIx_nat]
  by_cases h : i ≤ xs.length
  · rw [Nat.min_eq_left h]
    by_cases h2 : n ≤ xs.length
    · rw [Nat.min_eq_left h2]
    · rw [Nat.min_eq_right (by omega), List.take_of_length_le (by rw [List.length_drop]; exact Nat.le_refl _), List.take_of_length_le (by rw [List.length_drop]; omega)]
  · rw [show min i xs.length = xs.length by omega, List.drop_of_length_le (Nat.le_refl _), List.drop_of_length_le (show xs.length ≤ i by omega)]
    simp
theorem cut_back (xs : List V) {m : Nat} (h0 : 0 < m) (h : m ≤ xs.length) : cutV xs (some (-(m : Int))) none = xs.drop (xs.length - m) := by
  have e : HT.sIx xs.length 0 (some (-(m : Int))) = xs.length - m := by
    show (if -(m : Int) < 0 then (-(m : Int) + (xs.length : Int)).toNat else min (-(m : Int)).toNat xs.length) = _
    rw [if_pos (by omega)]
    omega
  unfold cutV
  rw [e, HT.sIx_none, List.take_of_length_le (by rw [List.length_drop]; exact Nat.le_refl _)]
theorem cut_from (xs : List V) {i : Nat} (h : i ≤ xs.length) : cutV xs (some (i : Int)) none = xs.drop i := by
  unfold cutV
  rw [HT.sIx_nat, HT.sIx_none, Nat.min_eq_left h, List.take_of_length_le (by rw [List.length_drop]; exact Nat.le_refl _)]
end RS
namespace RS
open PySem L2
section
variable {P : Program} {w : World} {K : PySem.W.Frag} {mg : Str → Option Value} {base : Heap}
/-! ### the law's rule that repeats -/
def spRep : Sp := fun vs H Q _ => ∃ (a : Addr) (b : Nat), vs = [.ref a] ∧ Src H a b ∧ b ≤ 50000 ∧
  ∀ (u g : Addr) (gs : List Int) (m : Nat) (H' : Hp), H g = none → H' u = some (.tup [.ref g, .int (m : Int)]) → H' g = some (.lst (gs.map V.int)) → GapsOk gs → 1 ≤ m → m ≤ gs.length → Kx a H H' → Src H' a (b + 30) → Q (.ref u) H'
def reN : List Str := ["_law_source", "_law_most", "_law_gaps", "_law_gap"]
theorem scRep : FnScope reN ["_law_source"] (defScope s_law_repeating) := ⟨rfl, rfl, rfl, by decide +kernel, rfl, by decide +kernel, by decide +kernel⟩
theorem ok_rep {f C fN fO : Addr} {fd fdN fdO : FuncData} (F : Fun K "_law_repeating" "_law_repeating" s_law_repeating f fd) (T : Txt K mg C) (GN : FnOk P w K mg base CX0 1 fN fdN ["_law_source", "_law_bound"] spNext) (bN : Binds K fdN ["_law_source", "_law_bound"] []) (mN : mg "_law_draw" = some (.ref fN)) (kN : PySem.W.keepIn K (.ref fN) = true)
    (GO : FnOk P w K mg base CX0 2 fO fdO ["_law_source", "_law_options"] spOne) (bO : Binds K fdO ["_law_source", "_law_options"] []) (mO : mg "_law_choice" = some (.ref fO)) (kO : PySem.W.keepIn K (.ref fO) = true) : FnOk P w K mg base CX0 3 f fd ["_law_source"] spRep := by
  refine F.ok scRep (fun vs H Q E h => ?_) (fun cdv A outer s H vs Q E hr h => ?_)
  · obtain ⟨a, b, rfl, _⟩ := h
    rfl
  · obtain ⟨a, b, rfl, S, hb, k⟩ := h
    have hr1 := hr.mono (show 1 ≤ 2 by decide)
    refine ⟨_, (pss_cons (ps_set (i := 1) scRep.nd rfl (Or.inr rfl) (pe_call GO hr rfl mO kO bO .nil pass0 (pa_cons (pv 0) (pa_cons (pe_lst (pa_cons pe_int (pa_cons pe_int (pa_cons pe_int (pa_cons pe_int (pa_cons (pe_op op_pow pe_int pe_int) pa_nil)))))) pa_nil)))) (pss_cons (ps_setLc (i := 2) (own := [("_law_gap", 3)]) (g := gName 3) (tt := tYes) (by rfl) scRep.nd rfl rfl (sw_true rfl rfl rfl (by decide +kernel)) (pi_range1 rfl T.range (pa_cons (pe_op op_add pe_int (pe_call GN hr1 rfl mN kN bN .nil pass0 (pa_cons (pv 0) (pa_cons (pe_call GO hr rfl mO kO bO .nil pass0 (pa_cons (pv 0) (pa_cons (pe_lst (pa_cons pe_int (pa_cons pe_int (pa_cons pe_int pa_nil)))) pa_nil))) pa_nil)))) pa_nil)) (blkOk_by (own := [("_law_gap", 3)]) (N := reN) (sc := (defScope s_law_repeating)) (by decide +kernel)) (fun _ _ _ _ _ => (pg_name (i := 3) scRep.nd rfl (Or.inl rfl))) (fun _ _ _ _ _ => pts_nil) (fun _ _ _ _ _ => (pe_op op_add pe_int (pe_call GN hr1 rfl mN kN bN .nil pass0 (pa_cons (pv 0) (pa_cons (pv 1) pa_nil)))))) (pss_one (ps_ret (pe_tup (pa_cons (pv 2) (pa_cons (pe_op op_add pe_int (pe_call GN hr1 rfl mN kN bN .nil pass0 (pa_cons (pv 0) (pa_cons (pe_callB call_len_seq (by rfl) T.len (by decide +kernel) (pa_cons (pv 2) pa_nil)) pa_nil)))) pa_nil))))))), ?_⟩
    -- most
    refine ⟨_, rfl, _, _, rfl, rfl, ⟨by decide, by decide, by decide⟩, (by show 5 ≤ sizeLine; decide), fun q1 hq1 => ?_⟩
    have S1 : Same H (upd H q1 (.lst [.int 2, .int 3, .int 6, .int 30, .int ((10 : Int) ^ (12 : Int).toNat)])) := same_new hq1
    refine ⟨a, q1, _, b, rfl, S.mono S1, by omega, (S.new hq1).symm, upd_same, by show 0 < 5; decide, by show 5 < 1000; decide, fun x H2 hx kx2 R2 => ?_⟩
    obtain ⟨wd, rfl, wd1, wd2⟩ : ∃ wd : Int, x = .int wd ∧ 1 ≤ wd ∧ wd ≤ 1000000000000 := by
      simp only [List.mem_cons, List.not_mem_nil, or_false] at hx
      rcases hx with rfl | rfl | rfl | rfl | rfl <;> exact ⟨_, rfl, by decide, by decide⟩
    have kx2 : Kx a H H2 := (Kx.of S1).trans kx2
    -- how many
    refine ⟨_, rfl, _, rfl, (by show 3 ≤ sizeLine; decide), fun q2 hq2 => ?_⟩
    refine ⟨a, q2, _, b + 1, rfl, R2.mono (same_new hq2), by omega, (R2.new hq2).symm, upd_same, by show 0 < 3; decide, by show 3 < 1000; decide, fun x H3 hx kx3 R3 => ?_⟩
    obtain ⟨ct, rfl, ct1, ct2⟩ : ∃ ct : Int, x = .int ct ∧ 1 ≤ ct ∧ ct ≤ 20 := by
      simp only [List.mem_cons, List.not_mem_nil, or_false] at hx
      rcases hx with rfl | rfl | rfl <;> exact ⟨_, rfl, by decide, by decide⟩
    have kx3 : Kx a H H3 := kx2.trans ((Kx.of (same_new hq2)).trans kx3)
    refine ⟨a, ct, b + 2, rfl, R3, by omega, ct1, by omega, fun cn H4 cn0 cn1 kx4 R4 => ?_⟩
    have kx4 : Kx a H H4 := kx3.trans kx4
    -- the gaps
    refine ⟨_, _, rfl, rfl, 1 + cn, rfl, by omega, by omega, fun D hD => ?_⟩
    have naD : a ≠ D := R4.new hD
    refine lc_range (lo := 0) (n := (1 + cn).toNat) (fun i H' => ∃ gs : List Int, gs.length = i ∧ (∀ g ∈ gs, 1 ≤ g ∧ g ≤ 1000000000000) ∧ H' D = some (.lst (gs.map V.int)) ∧ Kx a H4 H' ∧ Src H' a (b + 3 + i)) ⟨[], rfl, fun g hg => (nomatch hg), upd_same, Kx.of (same_new hD), R4.mono (same_new hD)⟩ (fun i H' hi p => ?_) (fun H' p => ?_)
    · obtain ⟨gs, hl, hg, hd, kx, R⟩ := p
      refine ⟨rfl, ?_⟩
      refine yes_t (iteT ?_)
      refine ⟨_, rfl, _, rfl, a, wd, b + 3 + i, rfl, R, by omega, wd1, by omega, fun r H5 r0 r1 kx5 R5 => ⟨_, _, rfl, rfl, gs.map V.int, kx5 D _ naD.symm hd, ?_, gs ++ [1 + r], ?_, ?_, ?_, ?_, ?_⟩⟩
      · rw [List.length_map]
        exact small1000 (by omega)
      · rw [List.length_append, hl]
        rfl
      · intro g hm
        rcases List.mem_append.mp hm with hm | hm
        · exact hg g hm
        · obtain rfl := List.mem_singleton.mp hm
          omega
      · rw [upd_same, List.map_append]
        rfl
      · intro c u n e
        rw [upd_ne (ne_of_none e hD)]
        exact kx5 c u n (kx c u n e)
      · obtain ⟨s0, s1, s2, h1, h2⟩ := R5.ex
        exact ⟨s0, s1, s2, by rw [upd_ne naD]; exact h1, h2⟩
    obtain ⟨gs, hl, hg, hd, kx, R⟩ := p
    have kx5 : Kx a H H' := kx4.trans kx
    have hDH : H D = none := kx4.free naD.symm hD
    have okG : GapsOk gs := ⟨by omega, hg⟩
    refine ⟨_, rfl, _, rfl, _, rfl, D, _, rfl, .inl (SqL.of hd), a, (gs.length : Int), b + 3 + (1 + cn).toNat, ?_, R, by omega, by omega, by omega, fun r H6 r0 r1 kx6 R6 => ?_⟩
    · rw [List.length_map]
      rfl
    refine ⟨_, _, rfl, rfl, (by show 2 ≤ sizeLine; decide), fun u hu => ?_⟩
    obtain ⟨n, rfl⟩ := Int.eq_ofNat_of_zero_le r0
    have hd6 := kx6 D _ naD.symm hd
    have Su := same_new (o := .tup [V.ref D, .int (1 + (n : Int))]) hu
    refine k u D gs (1 + n) _ hDH ?_ (Su _ _ hd6) okG (by omega) (by omega) ((kx5.trans kx6).trans (Kx.of Su)) ((R6.mono Su).le (by omega))
    rw [upd_same, Int.natCast_add]
    rfl
/-! ### the law's residues -/
theorem sum_take (gs : List Int) (k : Nat) : (gs.take k).sum = pre gs k := rfl
theorem sum_drop {gs : List Int} {k : Nat} : (gs.drop k).sum = gs.sum - pre gs k := by
  have h : (gs.take k ++ gs.drop k).sum = gs.sum := by rw [List.take_append_drop]
  rw [List.sum_append] at h
  unfold pre
  omega
theorem pre_all (gs : List Int) : pre gs gs.length = gs.sum := by unfold pre; rw [List.take_length]
def spLRes : Sp := fun vs H Q _ => ∃ (g : Addr) (gs : List Int) (m : Nat) (s : Int), vs = [.ref g, .int (m : Int), .int s] ∧ H g = some (.lst (gs.map V.int)) ∧ GapsOk gs ∧ 1 ≤ m ∧ m ≤ gs.length ∧
  ∀ u r H', H r = none → Same H H' → H' u = some (.tup [.int (per gs m), .ref r]) → H' r = some (.lst ((resid gs m s).map V.int)) → Q (.ref u) H'
def lrN : List Str := ["_law_gaps", "_law_count", "_law_start", "_law_first_here", "_law_offset", "_law_period", "_law_result", "_law_gap"]
theorem scLRes : FnScope lrN ["_law_gaps", "_law_count", "_law_start"] (defScope s_law_residues) := ⟨rfl, rfl, rfl, by decide +kernel, rfl, by decide +kernel, by decide +kernel⟩
theorem ok_lres {f C : Addr} {fd : FuncData} (F : Fun K "_law_residues" "_law_residues" s_law_residues f fd) (T : Txt K mg C) : FnOk P w K mg base CX0 1 f fd ["_law_gaps", "_law_count", "_law_start"] spLRes := by
  refine F.ok scLRes (fun vs H Q E h => ?_) (fun cdv A outer s H vs Q E hr h => ?_)
  · obtain ⟨g, gs, m, s, rfl, _⟩ := h
    rfl
  · obtain ⟨g, gs, m, st, rfl, hg, okG, h1, h2, k⟩ := h
    have hg20 := okG.1
    have hp := per_bd okG h1 h2
    refine ⟨_, (pss_cons (ps_set (i := 3) scLRes.nd rfl (Or.inl rfl) (pe_op op_sub (pe_callB call_len_seq (by rfl) T.len (by decide +kernel) (pa_cons (pv 0) pa_nil)) (pv 1))) (pss_cons (ps_set (i := 4) scLRes.nd rfl (Or.inl rfl) (pe_callB (cr_sum rfl) (by rfl) T.sum (by decide +kernel) (pa_cons (pe_slice sl_list (pv 0) po_none (po_some (pv 3))) pa_nil))) (pss_cons (ps_set (i := 5) scLRes.nd rfl (Or.inl rfl) (pe_callB (cr_sum rfl) (by rfl) T.sum (by decide +kernel) (pa_cons (pe_slice sl_list (pv 0) (po_some (pv 3)) po_none) pa_nil))) (pss_cons (ps_set (i := 6) scLRes.nd rfl (Or.inl rfl) (pe_lst pa_nil)) (pss_cons (ps_for PassesOwn.never rfl (pi_list (pe_slice sl_list (pv 0) (po_some (pv 3)) po_none)) (pg_name (i := 7) scLRes.nd rfl (Or.inl rfl)) (pss_cons (ps_expr (pe_bm PySem.F.plainAttrs_list PySem.F.slot_list_append PySem.F.type_list_append mt_append (pv 6) (pa_cons (pe_op op_mod (pe_callTy call_int1 (by rfl) T.int (by decide +kernel) (pa_cons (pe_op op_add (pv 2) (pv 4)) pa_nil)) (pv 5)) pa_nil))) (pss_one (ps_set (i := 4) scLRes.nd rfl (Or.inl rfl) (pe_op op_add (pv 4) (pv 7)))))) (pss_one (ps_ret (pe_tup (pa_cons (pv 5) (pa_cons (pv 6) pa_nil)))))))))), ?_⟩
    refine ⟨_, rfl, g, _, rfl, .inl (SqL.of hg), _, rfl, _, _, rfl, rfl, ?_⟩
    have e1 : (((gs.map V.int).length : Nat) : Int) - (m : Int) = ((gs.length - m : Nat) : Int) := by rw [List.length_map]; omega
    dsimp only [gName]
    rw [e1]
    -- the first offset
    refine ⟨_, rfl, _, rfl, _, rfl, g, _, rfl, SqL.of hg, fun l1 hl1 => ?_⟩
    rw [cut_to, ← List.map_take]
    have s1 := same_new (o := .lst ((gs.take (gs.length - m)).map V.int)) hl1
    refine ⟨l1, gs.take (gs.length - m), rfl, SqL.of upd_same, ?_⟩
    rw [sum_take]
    -- the period
    refine ⟨_, rfl, _, rfl, _, rfl, g, _, rfl, SqL.of (s1 _ _ hg), fun l2 hl2 => ?_⟩
    rw [cut_from _ (by rw [List.length_map]; omega), ← List.map_drop]
    have s2 := s1.trans (same_new (o := .lst ((gs.drop (gs.length - m)).map V.int)) hl2)
    refine ⟨l2, gs.drop (gs.length - m), rfl, SqL.of upd_same, ?_⟩
    have ep : (gs.drop (gs.length - m)).sum = per gs m := by rw [sum_drop, ← pre_all]; rfl
    rw [ep]
    refine ⟨by show 0 ≤ sizeLine; decide, fun r hrn => ?_⟩
    have s3 := s2.trans (same_new (o := .lst []) hrn)
    refine ⟨_, rfl, _, rfl, _, rfl, g, _, rfl, SqL.of (s3 _ _ hg), fun l3 hl3 => ?_⟩
    rw [cut_from _ (by rw [List.length_map]; omega), ← List.map_drop]
    have hr0 := same_new (o := .lst ((gs.drop (gs.length - m)).map V.int)) hl3 _ _ (upd_same (o := HO.lst []))
    have s4 := s3.trans (same_new (o := .lst ((gs.drop (gs.length - m)).map V.int)) hl3)
    have hl3' := upd_same (H := upd (upd (upd H l1 (.lst ((gs.take (gs.length - m)).map V.int))) l2 (.lst ((gs.drop (gs.length - m)).map V.int))) r (.lst [])) (a := l3) (o := .lst ((gs.drop (gs.length - m)).map V.int))
    have hHr : H r = none := s2.free hrn
    generalize (upd (upd (upd (upd H l1 (.lst ((gs.take (gs.length - m)).map V.int))) l2 (.lst ((gs.drop (gs.length - m)).map V.int))) r (.lst [])) l3 (.lst ((gs.drop (gs.length - m)).map V.int))) = H4 at s4 hl3' hr0 ⊢
    have nl3 : l3 ≠ r := fun z => by rw [z] at hl3; rw [upd_same] at hl3; cases hl3
    have hdl : (gs.drop (gs.length - m)).length = m := by rw [List.length_drop]; omega
    refine ⟨l3, rfl, ⟨_, SqL.of hl3'⟩, for_list (a := l3) (xs := (gs.drop (gs.length - m)).map V.int) (fun i σ H' => Kx r H4 H' ∧ (∃ v7, σ = [some (.ref g), some (.int (m : Int)), some (.int st), some (.int ((gs.length - m : Nat) : Int)), some (.int (pre gs (gs.length - m + i))), some (.int (per gs m)), some (.ref r), v7]) ∧ H' r = some (.lst (((resid gs m st).take i).map V.int)))
      ⟨Kx.refl _ _, ⟨none, rfl⟩, hr0⟩ (fun i σ H' _ p => SqL.of (p.1 _ _ nl3 hl3')) ?_ ?_⟩
    · rintro i x σ H5 hx ⟨kx, ⟨v7, rfl⟩, hr5⟩
      have hi := (List.getElem?_eq_some_iff.mp hx).1
      rw [List.length_map, hdl] at hi
      obtain ⟨y, hy, rfl⟩ := map_of hx
      rw [List.getElem?_drop] at hy
      refine ⟨_, rfl, .inl ⟨rfl, _, SqL.of hr5⟩, _, rfl, _, rfl, _, _, rfl, rfl, ?_⟩
      refine .inl ⟨_, rfl, ?_⟩
      refine ⟨_, rfl, ?_⟩
      refine ⟨_, _, rfl, rfl, (by show (0 : Int) < per gs m; omega), ?_⟩
      refine ⟨r, _, _, rfl, rfl, hr5, ?_, ?_⟩
      · rw [List.length_map, List.length_take]
        exact small1000 (by rw [resid_len]; omega)
      refine ⟨_, rfl, _, rfl, _, _, rfl, rfl, kx.trans Kx.upd, ⟨some (.int y), ?_⟩, ?_⟩
      · rw [show gs.length - m + (i + 1) = gs.length - m + i + 1 by omega, pre_succ gs hy]
        rfl
      · have e : (resid gs m st)[i]? = some ((st + pre gs (gs.length - m + i)) % per gs m) := by
          unfold resid repOffs
          rw [List.getElem?_map, List.getElem?_map, List.getElem?_range hi]
          rfl
        rw [upd_same, List.take_add_one, e, List.map_append]
        rfl
    · rintro σ H5 ⟨kx, ⟨v7, rfl⟩, hr5⟩
      rw [List.length_map, hdl, List.take_of_length_le (by rw [resid_len]; omega)] at hr5
      refine ⟨_, rfl, _, rfl, (by show 2 ≤ sizeLine; decide), fun u hu => ?_⟩
      have s5 : Same H H5 := fun b o e => kx _ _ (ne_of_none e hHr) (s4 _ _ e)
      exact k u r _ hHr (s5.trans (same_new hu)) upd_same (same_new hu _ _ hr5)
end
end RS
namespace RS
open PySem L2
/-! ### what the law's turn keeps -/
structure LawAt (C : Addr) (H : Hp) (a L g p g2 t o : Addr) (cs gs : List Int) (tl : Tl) : Prop where
  R : RuleAt C H p g2 t o gs tl
  hL : H L = some (.lst (cs.map V.int))
  hg : H g = some (.lst (gs.map V.int))
  nL : L ≠ a
  ng : g ≠ a
  np : p ≠ a
  n2 : g2 ≠ a
  nt : t ≠ a
  no : o ≠ a
theorem RuleAt.kx {C a : Addr} {H H' : Hp} {p g t o : Addr} {gs : List Int} {tl : Tl} (R : RuleAt C H p g t o gs tl) (h : Kx a H H') (np : p ≠ a) (ng : g ≠ a) (nt : t ≠ a) (no : o ≠ a) : RuleAt C H' p g t o gs tl :=
  ⟨let ⟨dx, e⟩ := R.ob; ⟨dx, h _ _ np e⟩, h _ _ ng R.hg, h _ _ nt R.ht, h _ _ no R.ho, R.okG, R.okT⟩
theorem LawAt.kx {C : Addr} {H H' : Hp} {a L g p g2 t o : Addr} {cs gs : List Int} {tl : Tl} (B : LawAt C H a L g p g2 t o cs gs tl) (h : Kx a H H') : LawAt C H' a L g p g2 t o cs gs tl :=
  ⟨B.R.kx h B.np B.n2 B.nt B.no, h _ _ B.nL B.hL, h _ _ B.ng B.hg, B.nL, B.ng, B.np, B.n2, B.nt, B.no⟩
theorem LawAt.same {C : Addr} {H H' : Hp} {a L g p g2 t o : Addr} {cs gs : List Int} {tl : Tl} (B : LawAt C H a L g p g2 t o cs gs tl) (h : Same H H') : LawAt C H' a L g p g2 t o cs gs tl := B.kx (Kx.of h)
theorem made_same {H : Hp} {p dx : Addr} {o1 o2 : HO} (hp : H p = none) (hd : H dx = none) : Same H (upd (upd H dx o1) p o2) := fun b u e => by
  rw [upd_ne (ne_of_none e hp), upd_ne (ne_of_none e hd)]
  exact e
/-- the law's promise: a list of at most 63 ints is handed in, True comes out -/
def spLaw (K : PySem.W.Frag) : Sp := fun vs H Q _ => ∃ (a : Addr) (ns : List Int), vs = [.ref a] ∧ SqL K H a (ns.map V.int) ∧ ns.length ≤ 63 ∧ ∀ H', Q (.bl true) H'
/-- the cells: the first number (or 0), then some more -/
def cellsOf (n : Nat) (ns : List Int) : List Int := ns.getD 0 0 :: ((ns.drop 1).take (n - 1))
end RS
namespace RS
open PySem L2
/-! ### all but two places -/
def Kx2 (a r : Addr) (H H' : Hp) : Prop := ∀ c u, c ≠ a → c ≠ r → H c = some u → H' c = some u
theorem Kx2.refl (a r : Addr) (H : Hp) : Kx2 a r H H := fun _ _ _ _ h => h
theorem Kx2.kx {a r : Addr} {H H1 H2 : Hp} (x : Kx2 a r H H1) (y : Kx a H1 H2) : Kx2 a r H H2 := fun c u n m h => y c u n (x c u n m h)
theorem Kx2.same {a r : Addr} {H H1 H2 : Hp} (x : Kx2 a r H H1) (y : Same H1 H2) : Kx2 a r H H2 := fun c u n m h => y c u (x c u n m h)
theorem Kx2.upd {a r : Addr} {H H1 : Hp} {o : HO} (x : Kx2 a r H H1) : Kx2 a r H (upd H1 r o) := fun c u n m h => by
  rw [upd_ne m]
  exact x c u n m h
theorem Src.off {H : Hp} {a r : Addr} {b : Nat} {o : HO} (h : Src H a b) (n : a ≠ r) : Src (upd H r o) a b := by
  obtain ⟨s0, s1, s2, h1, h2⟩ := h.ex
  exact ⟨s0, s1, s2, by rw [upd_ne n]; exact h1, h2⟩
theorem int_of_mem {xs : List Int} {x : V} (h : x ∈ xs.map V.int) : ∃ i, x = .int i ∧ i ∈ xs := by
  obtain ⟨i, hi, rfl⟩ := List.mem_map.mp h
  exact ⟨i, rfl, hi⟩
section
variable {P : Program} {w : World} {K : PySem.W.Frag} {mg : Str → Option Value} {base : Heap}
def spSts : Sp := fun vs H Q _ => ∃ (a g : Addr) (gs : List Int) (m : Nat) (mo : Nat) (b : Nat), vs = [.ref a, .ref g, .int (m : Int), .int (mo : Int)] ∧ Src H a b ∧ b ≤ 50000 ∧ g ≠ a ∧ H g = some (.lst (gs.map V.int)) ∧ GapsOk gs ∧ 1 ≤ m ∧ m ≤ gs.length ∧ 1 ≤ mo ∧ mo ≤ 40 ∧
  ∀ (r : Addr) (bs : List Int) (H' : Hp), H r = none → H' r = some (.lst (bs.map V.int)) → 1 ≤ bs.length → bs.length ≤ mo → Kx a H H' → Src H' a (b + 400) → Q (.ref r) H'
def lsN : List Str := ["_law_source", "_law_gaps", "_law_count", "_law_most", "_law_period", "_law_own", "_law_result", "_law_client", "_law_base", "_law_apart", "_law_far"]
theorem scSts : FnScope lsN ["_law_source", "_law_gaps", "_law_count", "_law_most"] (defScope s_law_starts) := ⟨rfl, rfl, rfl, by decide +kernel, rfl, by decide +kernel, by decide +kernel⟩
theorem ok_sts {f C fN fO fR : Addr} {fd fdN fdO fdR : FuncData} (F : Fun K "_law_starts" "_law_starts" s_law_starts f fd) (T : Txt K mg C) (GN : FnOk P w K mg base CX0 1 fN fdN ["_law_source", "_law_bound"] spNext) (bN : Binds K fdN ["_law_source", "_law_bound"] []) (mN : mg "_law_draw" = some (.ref fN)) (kN : PySem.W.keepIn K (.ref fN) = true)
    (GO : FnOk P w K mg base CX0 2 fO fdO ["_law_source", "_law_options"] spOne) (bO : Binds K fdO ["_law_source", "_law_options"] []) (mO : mg "_law_choice" = some (.ref fO)) (kO : PySem.W.keepIn K (.ref fO) = true)
    (GR : FnOk P w K mg base CX0 1 fR fdR ["_law_gaps", "_law_count", "_law_start"] spLRes) (bR : Binds K fdR ["_law_gaps", "_law_count", "_law_start"] []) (mR : mg "_law_residues" = some (.ref fR)) (kR : PySem.W.keepIn K (.ref fR) = true) : FnOk P w K mg base CX0 3 f fd ["_law_source", "_law_gaps", "_law_count", "_law_most"] spSts := by
  refine F.ok scSts (fun vs H Q E h => ?_) (fun cdv A outer s H vs Q E hr h => ?_)
  · obtain ⟨a, g, gs, m, mo, b, rfl, _⟩ := h
    rfl
  · obtain ⟨a, g, gs, m, mo, b, rfl, S, hb, nga, hg, okG, h1, h2, hm1, hm40, k⟩ := h
    have hr1 := hr.mono (show 1 ≤ 2 by decide)
    have hp := per_bd okG h1 h2
    refine ⟨_, (pss_cons (ps_asg (pe_call GR hr1 rfl mR kR bR .nil pass0 (pa_cons (pv 1) (pa_cons (pv 2) (pa_cons pe_int pa_nil)))) (pg_tup rfl (pgs_cons (pg_name (i := 4) scSts.nd rfl (Or.inl rfl)) (pgs_cons (pg_name (i := 5) scSts.nd rfl (Or.inl rfl)) pgs_nil)))) (pss_cons (ps_set (i := 6) scSts.nd rfl (Or.inl rfl) (pe_lst (pa_cons (pe_op op_sub (pe_call GN hr1 rfl mN kN bN .nil pass0 (pa_cons (pv 0) (pa_cons pe_int pa_nil))) pe_int) pa_nil))) (pss_cons (ps_for PassesOwn.never rfl (pi_range1 rfl T.range (pa_cons (pe_call GN hr1 rfl mN kN bN .nil pass0 (pa_cons (pv 0) (pa_cons (pv 3) pa_nil))) pa_nil)) (pg_name (i := 7) scSts.nd rfl (Or.inl rfl)) (pss_cons (ps_set (i := 8) scSts.nd rfl (Or.inl rfl) (pe_call GO hr rfl mO kO bO .nil pass0 (pa_cons (pv 0) (pa_cons (pv 6) pa_nil)))) (pss_cons (ps_set (i := 9) scSts.nd rfl (Or.inl rfl) (pe_op op_sub (pe_call GO hr rfl mO kO bO .nil pass0 (pa_cons (pv 0) (pa_cons (pv 5) pa_nil))) (pe_call GO hr rfl mO kO bO .nil pass0 (pa_cons (pv 0) (pa_cons (pv 5) pa_nil))))) (pss_cons (ps_set (i := 10) scSts.nd rfl (Or.inl rfl) (pe_op op_mul (pv 4) (pe_call GO hr rfl mO kO bO .nil pass0 (pa_cons (pv 0) (pa_cons (pe_lst (pa_cons pe_int (pa_cons pe_int (pa_cons pe_int (pa_cons (pe_un un_neg pe_int) (pa_cons (pe_call GN hr1 rfl mN kN bN .nil pass0 (pa_cons (pv 0) (pa_cons (pe_op op_pow pe_int pe_int) pa_nil))) pa_nil)))))) pa_nil))))) (pss_one (ps_expr (pe_bm PySem.F.plainAttrs_list PySem.F.slot_list_append PySem.F.type_list_append mt_append (pv 6) (pa_cons (pe_op op_add (pv 8) (pe_call GO hr rfl mO kO bO .nil pass0 (pa_cons (pv 0) (pa_cons (pe_lst (pa_cons (pv 9) (pa_cons (pv 9) (pa_cons (pe_op op_add (pv 9) (pv 10)) (pa_cons (pv 10) (pa_cons (pe_op op_sub (pe_call GN hr1 rfl mN kN bN .nil pass0 (pa_cons (pv 0) (pa_cons pe_int pa_nil))) pe_int) pa_nil)))))) pa_nil)))) pa_nil)))))))) (pss_one (ps_ret (pv 6)))))), ?_⟩
    refine ⟨_, rfl, _, rfl, g, gs, m, 0, rfl, hg, okG, h1, h2, fun u ow H1 how S1 hu how1 => ?_⟩
    refine ⟨u, _, rfl, SqT.of hu, rfl, _, _, rfl, _, _, rfl, rfl, ?_⟩
    have R1 := S.mono S1
    have nwa : ow ≠ a := (S.new how).symm
    -- the first start
    refine ⟨_, rfl, a, 60, b, rfl, R1, by omega, by decide, by decide, fun x0 H2 _ _ kx2 R2 => ?_⟩
    refine ⟨_, _, rfl, rfl, (by show 1 ≤ sizeLine; decide), fun r hrn => ?_⟩
    have how2 := kx2 _ _ nwa how1
    have nra : r ≠ a := (R2.new hrn).symm
    have nrw : ow ≠ r := ne_of_none how2 hrn
    have S3 := same_new (o := .lst [V.int (x0 - 30)]) hrn
    have kx3 : Kx a H (upd H2 r (.lst [V.int (x0 - 30)])) := ((Kx.of S1).trans kx2).trans (Kx.of S3)
    have hr3 := upd_same (H := H2) (a := r) (o := .lst [V.int (x0 - 30)])
    have R3 := R2.mono S3
    have how3 := S3 _ _ how2
    have hHr : H r = none := ((Kx.of S1).trans kx2).free nra hrn
    generalize (upd H2 r (.lst [V.int (x0 - 30)])) = H3 at kx3 hr3 R3 how3 ⊢
    clear S3 R2 how2 kx2
    refine ⟨_, rfl, _, rfl, a, (mo : Int), b + 1, rfl, R3, by omega, by omega, by omega, fun cn H4 cn0 cn1 kx4 R4 => ?_⟩
    have hr4 := kx4 _ _ nra hr3
    have how4 := kx4 _ _ nwa how3
    refine ⟨cn, rfl, by omega, by omega, for_range (lo := 0) (n := cn.toNat) (fun i σ H' => (∃ v7 v8 v9 v10, σ = [some (.ref a), some (.ref g), some (.int (m : Int)), some (.int (mo : Int)), some (.int (per gs m)), some (.ref ow), some (.ref r), v7, v8, v9, v10]) ∧ Kx2 a r H4 H' ∧ Src H' a (b + 2 + 8 * i) ∧ ∃ bs : List Int, bs.length = 1 + i ∧ H' r = some (.lst (bs.map V.int)))
      ⟨⟨none, none, none, none, rfl⟩, Kx2.refl _ _ _, R4, [x0 - 30], rfl, hr4⟩ ?_ ?_⟩
    · rintro i σ H5 hi ⟨⟨v7, v8, v9, v10, rfl⟩, k5, R5, bs, hbl, hr5⟩
      have hiL : i ≤ 40 := by omega
      have how5 := k5 _ _ nwa nrw how4
      -- base
      refine ⟨_, rfl, _, rfl, a, r, bs.map V.int, b + 2 + 8 * i, rfl, R5, by omega, nra, hr5, by rw [List.length_map]; omega, by rw [List.length_map]; omega, fun x H6 hx kx6 R6 => ?_⟩
      obtain ⟨x, rfl, _⟩ := int_of_mem hx
      have hr6 := kx6 _ _ nra hr5
      have how6 := kx6 _ _ nwa how5
      -- apart
      refine ⟨_, rfl, _, rfl, a, ow, (resid gs m 0).map V.int, b + 2 + 8 * i + 1, rfl, R6, by omega, nwa, how6, by rw [List.length_map, resid_len]; omega, by rw [List.length_map, resid_len]; have := okG.1; omega, fun y H7 hy kx7 R7 => ?_⟩
      obtain ⟨y, rfl, _⟩ := int_of_mem hy
      refine ⟨_, rfl, _, rfl, a, ow, (resid gs m 0).map V.int, b + 2 + 8 * i + 1 + 1, rfl, R7, by omega, nwa, kx7 _ _ nwa how6, by rw [List.length_map, resid_len]; omega, by rw [List.length_map, resid_len]; have := okG.1; omega, fun z H8 hz kx8 R8 => ?_⟩
      obtain ⟨z, rfl, _⟩ := int_of_mem hz
      refine ⟨_, _, rfl, rfl, ?_⟩
      -- far
      refine ⟨_, rfl, _, rfl, _, rfl, _, rfl, _, _, rfl, rfl, ⟨by decide, by decide, by decide⟩, a, _, b + 2 + 8 * i + 1 + 1 + 1, rfl, R8, by omega, by decide, by decide, fun d H9 _ _ kx9 R9 => ?_⟩
      refine ⟨(by show 5 ≤ sizeLine; decide), fun q1 hq1 => ?_⟩
      refine ⟨a, q1, [V.int 0, .int 0, .int 1, .int (-2), .int d], b + 2 + 8 * i + 1 + 1 + 1 + 1, rfl, R9.mono (same_new hq1), by omega, (R9.new hq1).symm, upd_same, by show 0 < 5; decide, by show 5 < 1000; decide, fun e H10 he kx10 R10 => ?_⟩
      obtain ⟨e, rfl⟩ : ∃ i : Int, e = .int i := by
        simp only [List.mem_cons, List.not_mem_nil, or_false] at he
        rcases he with rfl | rfl | rfl | rfl | rfl <;> exact ⟨_, rfl⟩
      refine ⟨_, _, rfl, rfl, .inl ⟨by omega, by omega⟩, ?_⟩
      have kx610 : Kx a H5 H10 := ((((kx6.trans kx7).trans kx8).trans kx9).trans (Kx.of (same_new hq1))).trans kx10
      have hr10 := kx610 _ _ nra hr5
      -- the next start
      refine ⟨_, rfl, .inl ⟨rfl, _, SqL.of hr10⟩, _, rfl, _, rfl, _, rfl, _, rfl, _, rfl, _, rfl, _, _, rfl, rfl, _, rfl, _, rfl, a, 60, b + 2 + 8 * i + 1 + 1 + 1 + 1 + 1, rfl, R10, by omega, by decide, by decide, fun d2 H11 _ _ kx11 R11 => ?_⟩
      refine ⟨_, _, rfl, rfl, (by show 5 ≤ sizeLine; decide), fun q2 hq2 => ?_⟩
      refine ⟨a, q2, _, b + 2 + 8 * i + 1 + 1 + 1 + 1 + 1 + 1, rfl, R11.mono (same_new hq2), by omega, (R11.new hq2).symm, upd_same, by show 0 < 5; decide, by show 5 < 1000; decide, fun e2 H12 he2 kx12 R12 => ?_⟩
      obtain ⟨e2, rfl⟩ : ∃ i : Int, e2 = .int i := by
        simp only [List.mem_cons, List.not_mem_nil, or_false] at he2
        rcases he2 with rfl | rfl | rfl | rfl | rfl <;> exact ⟨_, rfl⟩
      have kx512 : Kx a H5 H12 := ((kx610.trans kx11).trans (Kx.of (same_new hq2))).trans kx12
      have hr12 := kx512 _ _ nra hr5
      refine ⟨_, _, rfl, rfl, r, _, _, rfl, rfl, hr12, ?_, ?_⟩
      · rw [List.length_map]
        exact small1000 (by omega)
      exact ⟨⟨_, _, _, _, rfl⟩, (k5.kx kx512).upd, (R12.off nra.symm).le (by omega), bs ++ [x + e2], by rw [List.length_append, hbl]; show 1 + i + 1 = _; omega, by rw [upd_same, List.map_append]; rfl⟩
    · rintro σ H5 ⟨⟨v7, v8, v9, v10, rfl⟩, k5, R5, bs, hbl, hr5⟩
      refine ⟨_, rfl, k r bs H5 hHr hr5 (by omega) (by omega) (fun c u n e => k5 c u n (ne_of_none e hHr) (kx4 c u n (kx3 c u n e))) (R5.le (by omega))⟩
end
end RS
namespace RS
open PySem L2
/-! ### a dict of lists of clients, by whole numbers -/
def kvsOf (ks : List Int) (as : List Addr) : List (Key × V) := List.zipWith (fun r a => ((Sum.inl r : Key), V.ref a)) ks as
theorem kvsOf_len {ks : List Int} {as : List Addr} (h : as.length = ks.length) : (kvsOf ks as).length = ks.length := by
  unfold kvsOf
  rw [List.length_zipWith, h, Nat.min_self]
theorem kvsOf_keys : ∀ {ks : List Int} {as : List Addr}, as.length = ks.length → (kvsOf ks as).map (fun kv => kV kv.1) = ks.map V.int
  | [], [], _ => rfl
  | [], _ :: _, h => nomatch h
  | _ :: _, [], h => nomatch h
  | r :: ks, a :: as, h => by
    have ih := kvsOf_keys (ks := ks) (as := as) (Nat.succ.inj h)
    show kV (Sum.inl r) :: (kvsOf ks as).map (fun kv => kV kv.1) = _
    rw [ih]
    rfl
theorem kvsOf_at : ∀ {ks : List Int} {as : List Addr} {j : Nat} {r : Int} {a : Addr}, ks.Nodup → ks[j]? = some r → as[j]? = some a → valV (kvsOf ks as) (Sum.inl r) = some (.ref a)
  | [], _, _, _, _, _, h, _ => nomatch h
  | _ :: _, [], _, _, _, _, _, h => nomatch h
  | q :: ks, b :: as, 0, r, a, _, h1, h2 => by
    cases h1
    cases h2
    exact valV_pos (p := ((Sum.inl q : Key), V.ref b)) rfl
  | q :: ks, b :: as, j + 1, r, a, hn, h1, h2 => by
    have h1 : ks[j]? = some r := h1
    have hq : q ≠ r := fun e => (List.nodup_cons.mp hn).1 (e ▸ List.mem_of_getElem? h1)
    have ih := kvsOf_at (List.nodup_cons.mp hn).2 h1 h2
    show valV (((Sum.inl q : Key), V.ref b) :: kvsOf ks as) (Sum.inl r) = _
    unfold valV at ih ⊢
    rw [List.find?_cons, decide_eq_false (fun e => hq (Sum.inl.inj e))]
    exact ih
theorem kvsOf_none : ∀ {ks : List Int} {as : List Addr} {r : Int}, r ∉ ks → valV (kvsOf ks as) (Sum.inl r) = none
  | [], _, _, _ => rfl
  | _ :: _, [], _, _ => rfl
  | q :: ks, b :: as, r, h => by
    have ih := kvsOf_none (ks := ks) (as := as) (r := r) fun z => h (List.mem_cons_of_mem _ z)
    show valV (((Sum.inl q : Key), V.ref b) :: kvsOf ks as) (Sum.inl r) = _
    unfold valV at ih ⊢
    rw [List.find?_cons, decide_eq_false (fun e => h ((Sum.inl.inj e : q = r) ▸ List.mem_cons_self ..))]
    exact ih
theorem kvsOf_put {ks : List Int} {as : List Addr} {r : Int} {a : Addr} (hl : as.length = ks.length) (h : r ∉ ks) : putK (kvsOf ks as) (Sum.inl r) (.ref a) = kvsOf (ks ++ [r]) (as ++ [a]) := by
  unfold putK
  rw [valV_any, kvsOf_none h, if_neg (by decide)]
  unfold kvsOf
  rw [List.zipWith_append hl.symm]
  rfl
theorem nodup_at {α : Type} : ∀ {l : List α} {i j : Nat} {x : α}, l.Nodup → l[i]? = some x → l[j]? = some x → i = j
  | [], _, _, _, _, h, _ => nomatch h
  | _ :: _, 0, 0, _, _, _, _ => rfl
  | a :: l, 0, j + 1, x, hn, h1, h2 => by
    cases h1
    exact absurd (List.mem_of_getElem? (show l[j]? = some a from h2)) (List.nodup_cons.mp hn).1
  | a :: l, i + 1, 0, x, hn, h1, h2 => by
    cases h2
    exact absurd (List.mem_of_getElem? (show l[i]? = some a from h1)) (List.nodup_cons.mp hn).1
  | a :: l, i + 1, j + 1, x, hn, h1, h2 => by
    rw [nodup_at (l := l) (List.nodup_cons.mp hn).2 h1 h2]
theorem nodup_one {α : Type} (a : α) : [a].Nodup := List.nodup_cons.mpr ⟨(fun h => nomatch h), List.Pairwise.nil⟩
structure DictF (H : Hp) (d : Addr) (ks : List Int) (as : List Addr) (f : Int → List Nat) : Prop where
  hd : H d = some (.dK (kvsOf ks as))
  nk : ks.Nodup
  na : as.Nodup
  len : as.length = ks.length
  ls : ∀ (j : Nat) (r : Int) (a : Addr), ks[j]? = some r → as[j]? = some a → H a = some (.lst ((f r).map nV))
  out : ∀ r, r ∉ ks → f r = []
theorem DictF.keep {H H' : Hp} {d : Addr} {ks : List Int} {as : List Addr} {f : Int → List Nat} (D : DictF H d ks as f) (h1 : H' d = H d) (h2 : ∀ a ∈ as, H' a = H a) : DictF H' d ks as f :=
  ⟨h1.trans D.hd, D.nk, D.na, D.len, fun j r a e1 e2 => (h2 a (List.mem_of_getElem? e2)).trans (D.ls j r a e1 e2), D.out⟩
theorem DictF.some_ {H : Hp} {d : Addr} {ks : List Int} {as : List Addr} {f : Int → List Nat} (D : DictF H d ks as f) {a : Addr} (h : a ∈ as) : ∃ r, H a = some (.lst ((f r).map nV)) := by
  obtain ⟨j, hj, e⟩ := List.mem_iff_getElem.mp h
  have hk : j < ks.length := by rw [← D.len]; exact hj
  exact ⟨ks[j], D.ls j _ a (List.getElem?_eq_getElem hk) (e ▸ List.getElem?_eq_getElem hj)⟩
theorem DictF.same {H H' : Hp} {d : Addr} {ks : List Int} {as : List Addr} {f : Int → List Nat} (D : DictF H d ks as f) (S : Same H H') : DictF H' d ks as f :=
  D.keep ((S _ _ D.hd).trans D.hd.symm) fun a ha => let ⟨_, e⟩ := D.some_ ha; (S _ _ e).trans e.symm
theorem DictF.nd {H : Hp} {d : Addr} {ks : List Int} {as : List Addr} {f : Int → List Nat} (D : DictF H d ks as f) : d ∉ as := fun h => by
  obtain ⟨r, e⟩ := D.some_ h
  rw [D.hd] at e
  cases e
/-- where the list of a number stands -/
theorem DictF.at_ {H : Hp} {d : Addr} {ks : List Int} {as : List Addr} {f : Int → List Nat} (D : DictF H d ks as f) {r : Int} (h : r ∈ ks) : ∃ (j : Nat) (a : Addr), ks[j]? = some r ∧ as[j]? = some a ∧ H a = some (.lst ((f r).map nV)) ∧ valV (kvsOf ks as) (Sum.inl r) = some (.ref a) := by
  obtain ⟨j, hj, e⟩ := List.mem_iff_getElem.mp h
  have hk : ks[j]? = some r := e ▸ List.getElem?_eq_getElem hj
  have ha : as[j]? = some (as[j]'(by rw [D.len]; exact hj)) := List.getElem?_eq_getElem _
  exact ⟨j, _, hk, ha, D.ls j r _ hk ha, kvsOf_at D.nk hk ha⟩
/-- another list for a number -/
theorem DictF.set {H : Hp} {d : Addr} {ks : List Int} {as : List Addr} {f : Int → List Nat} (D : DictF H d ks as f) {j : Nat} {r : Int} {a : Addr} (h1 : ks[j]? = some r) (h2 : as[j]? = some a) (l : List Nat) : DictF (upd H a (.lst (l.map nV))) d ks as (fun x => if x = r then l else f x) := by
  have hm := List.mem_of_getElem? h2
  refine ⟨by rw [upd_ne (fun (e : d = a) => D.nd (by rw [e]; exact hm))]; exact D.hd, D.nk, D.na, D.len, fun j' r' a' e1 e2 => ?_, fun x hx => ?_⟩
  · by_cases hj : j' = j
    · subst hj
      rw [h1] at e1
      rw [h2] at e2
      cases e1
      cases e2
      rw [upd_same, if_pos rfl]
    · have hr : r' ≠ r := fun e => by
        subst e
        exact hj (nodup_at D.nk e1 h1)
      have ha : a' ≠ a := fun e => by
        subst e
        exact hj (nodup_at D.na e2 h2)
      rw [upd_ne ha, if_neg hr]
      exact D.ls j' r' a' e1 e2
  · show (if x = r then l else f x) = []
    rw [if_neg (fun (e : x = r) => hx (by rw [e]; exact List.mem_of_getElem? h1))]
    exact D.out x hx
/-- a number that is new -/
theorem DictF.add {H : Hp} {d : Addr} {ks : List Int} {as : List Addr} {f : Int → List Nat} (D : DictF H d ks as f) {r : Int} {a : Addr} (h : r ∉ ks) (ha : H a = none) : DictF (upd (upd H a (.lst [])) d (.dK (putK (kvsOf ks as) (Sum.inl r) (.ref a)))) d (ks ++ [r]) (as ++ [a]) f := by
  have nad : a ≠ d := (ne_of_none D.hd ha).symm
  have nas : a ∉ as := fun z => by
    obtain ⟨x, e⟩ := D.some_ z
    rw [ha] at e
    cases e
  refine ⟨by rw [upd_same, kvsOf_put D.len h], ?_, ?_, by rw [List.length_append, List.length_append, D.len]; rfl, fun j r' a' e1 e2 => ?_, fun x hx => D.out x fun z => hx (List.mem_append_left _ z)⟩
  · exact List.nodup_append.mpr ⟨D.nk, nodup_one r, fun x hx y hy e => h (by rw [← List.mem_singleton.mp hy, ← e]; exact hx)⟩
  · exact List.nodup_append.mpr ⟨D.na, nodup_one a, fun x hx y hy e => nas (by rw [← List.mem_singleton.mp hy, ← e]; exact hx)⟩
  · by_cases hj : j < ks.length
    · rw [List.getElem?_append_left hj] at e1
      rw [List.getElem?_append_left (by rw [D.len]; exact hj)] at e2
      have hm := List.mem_of_getElem? e2
      rw [upd_ne (fun (e : a' = d) => D.nd (by rw [← e]; exact hm)), upd_ne (fun (e : a' = a) => nas (by rw [← e]; exact hm))]
      exact D.ls j r' a' e1 e2
    · rw [List.getElem?_append_right (by omega)] at e1
      rw [List.getElem?_append_right (by rw [D.len]; omega)] at e2
      have z1 := List.getElem?_eq_some_iff.mp e1
      have z2 := List.getElem?_eq_some_iff.mp e2
      have y1 : r' = r := by
        have := List.mem_of_getElem? e1
        exact List.mem_singleton.mp this
      have y2 : a' = a := by
        have := List.mem_of_getElem? e2
        exact List.mem_singleton.mp this
      subst y1 y2
      rw [upd_ne nad, upd_same, D.out _ h]
      rfl
/-! ### the loop object -/
theorem lkn {m k : Str} {v : V} {r : List (Str × V)} (h : m ≠ k) : List.lookup m ((k, v) :: r) = List.lookup m r := by
  rw [List.lookup, beq_false_of_ne h]
theorem lke {m : Str} {v : V} {r : List (Str × V)} : List.lookup m ((m, v) :: r) = some v := by
  rw [List.lookup, beq_self_eq_true]
theorem pfn {f k : Str} {v x : V} {r : List (Str × V)} (h : ¬ k = f) : putF f v ((k, x) :: r) = (k, x) :: putF f v r := by rw [putF, if_neg h]
theorem pfe {f : Str} {v x : V} {r : List (Str × V)} : putF f v ((f, x) :: r) = (f, v) :: r := by rw [putF, if_pos rfl]
def lpf (P F : V) (o d : Addr) (L : V) (ch : Bool) : List (Str × V) := [("_period", P), ("_first", F), ("_offsets", .ref o), ("_clients", .ref d), ("_lone", L), ("_changed", .bl ch)]
section
variable (P F : V) (o d : Addr) (L : V) (ch : Bool)
theorem lpf_P : (lpf P F o d L ch).lookup ("_period" : Str) = some P := lke
theorem lpf_F : (lpf P F o d L ch).lookup ("_first" : Str) = some F := by
  unfold lpf
  rw [lkn (by decide +kernel), lke]
theorem lpf_o : (lpf P F o d L ch).lookup ("_offsets" : Str) = some (.ref o) := by
  unfold lpf
  rw [lkn (by decide +kernel), lkn (by decide +kernel), lke]
theorem lpf_d : (lpf P F o d L ch).lookup ("_clients" : Str) = some (.ref d) := by
  unfold lpf
  rw [lkn (by decide +kernel), lkn (by decide +kernel), lkn (by decide +kernel), lke]
theorem lpf_L : (lpf P F o d L ch).lookup ("_lone" : Str) = some L := by
  unfold lpf
  rw [lkn (by decide +kernel), lkn (by decide +kernel), lkn (by decide +kernel), lkn (by decide +kernel), lke]
theorem lpf_c : (lpf P F o d L ch).lookup ("_changed" : Str) = some (.bl ch) := by
  unfold lpf
  rw [lkn (by decide +kernel), lkn (by decide +kernel), lkn (by decide +kernel), lkn (by decide +kernel), lkn (by decide +kernel), lke]
theorem lpf_no {m : Str} (h1 : m ≠ "_period") (h2 : m ≠ "_first") (h3 : m ≠ "_offsets") (h4 : m ≠ "_clients") (h5 : m ≠ "_lone") (h6 : m ≠ "_changed") : (lpf P F o d L ch).lookup m = none := by
  unfold lpf
  rw [lkn h1, lkn h2, lkn h3, lkn h4, lkn h5, lkn h6]
  rfl
theorem lpf_sL (L2 : V) : putF "_lone" L2 (lpf P F o d L ch) = lpf P F o d L2 ch := by
  unfold lpf
  rw [pfn (by decide +kernel), pfn (by decide +kernel), pfn (by decide +kernel), pfn (by decide +kernel), pfe]
theorem lpf_sc (c2 : Bool) : putF "_changed" (.bl c2) (lpf P F o d L ch) = lpf P F o d L c2 := by
  unfold lpf
  rw [pfn (by decide +kernel), pfn (by decide +kernel), pfn (by decide +kernel), pfn (by decide +kernel), pfn (by decide +kernel), pfe]
end
def optV : Option Int → V
  | none => .non
  | some s => .int s
/-- the first slot from one on in which one client is alone -/
def IsLone (f : Int → List Nat) (P q : Int) : Option Int → Prop
  | none => ∀ t, q ≤ t → (f (t % P)).length ≠ 1
  | some s => q ≤ s ∧ (f (s % P)).length = 1 ∧ ∀ t, q ≤ t → t < s → (f (t % P)).length ≠ 1
structure LoopAt (C : Addr) (H : Hp) (p o d : Addr) (gs : List Int) (m : Nat) (ks : List Int) (as : List Addr) (f : Int → List Nat) (L : Option Int) (ch : Bool) : Prop where
  ob : ∃ dx, H p = some (.ins C dx (lpf (.int (per gs m)) (.int ((gs.length - m : Nat) : Int)) o d (optV L) ch))
  ho : H o = some (.lst ((repOffs gs m).map V.int))
  D : DictF H d ks as f
  no : o ∉ as
  kb : ∀ r ∈ ks, 0 ≤ r ∧ r < per gs m
  bd : ∀ r, (f r).length ≤ 1000
  okG : GapsOk gs
  h1 : 1 ≤ m
  h2 : m ≤ gs.length
theorem LoopAt.same {C : Addr} {H H' : Hp} {p o d : Addr} {gs : List Int} {m : Nat} {ks : List Int} {as : List Addr} {f : Int → List Nat} {L : Option Int} {ch : Bool} (R : LoopAt C H p o d gs m ks as f L ch) (S : Same H H') : LoopAt C H' p o d gs m ks as f L ch :=
  ⟨let ⟨dx, e⟩ := R.ob; ⟨dx, S _ _ e⟩, S _ _ R.ho, R.D.same S, R.no, R.kb, R.bd, R.okG, R.h1, R.h2⟩
theorem LoopAt.npd {C : Addr} {H : Hp} {p o d : Addr} {gs : List Int} {m : Nat} {ks : List Int} {as : List Addr} {f : Int → List Nat} {L : Option Int} {ch : Bool} (R : LoopAt C H p o d gs m ks as f L ch) : d ≠ p ∧ o ≠ p ∧ p ∉ as ∧ d ≠ o := by
  obtain ⟨dx, e⟩ := R.ob
  refine ⟨ne_of R.D.hd e (by intro z; cases z), ne_of R.ho e (by intro z; cases z), fun z => ?_, ne_of R.D.hd R.ho (by intro z; cases z)⟩
  obtain ⟨r, e2⟩ := R.D.some_ z
  rw [e] at e2
  cases e2
/-- all but the loop's own is as it was -/
def FpL (p d : Addr) (as : List Addr) (H H' : Hp) : Prop := ∀ c u, H c = some u → c ≠ p → c ≠ d → c ∉ as → H' c = some u
end RS
namespace RS
open PySem L2 PySem.Spec PyProof.Rows
/-! ### min(xs, default = v) of a list of ints: the machine's loop, with a keyword handed along -/
section
variable {prog : Program} {w : World} {A : Around} {R : Result → Shared → Prop} {I : Addr} {fp wr : List Addr} {n : Nat} {Pn : Nat → Value → Prop} {Sn : Nat → Heap → Prop} {kw : List (Str × Value)}
theorem minLoopName : (toString "min" ++ toString ".loop" : String) = "min.loop" := by decide
theorem min_turns (W : Walks prog w A.in1 I fp wr n Pn Sn) (bt : Nat → Nat → Bool) (cmp : CmpOf prog w A.in1 .Lt Pn bt) (S : Addr) (nS : S ∉ fp) : ∀ (k j : Nat) (s : Shared) (vb : Value) (c : Nat),
    n - (j + 1) = k → j + 1 ≤ n → Sn (j + 1) s.heap → Pn (argBest bt j) vb → s.heap.get? S = some { cls := .type "list", dict := none, data := .seq #[vb, vb] c, slots := #[] } →
    (∀ v h' tk, Pn (argBest bt (n - 1)) v → (∀ b o, b ∉ wr → b ≠ S → s.heap.get? b = some o → h'.get? b = some o) →
      R (.ok (.ret v)) { s with heap := h', toks := tk }) →
    codeAny (model prog w) A (.builtin "min.loop" ⟨[.ref I, .none, .ref S], kw⟩) R s := by
  have nSw : S ∉ wr := fun z => nS (W.sub _ z)
  intro k
  induction k with
  | zero =>
    intro j s vb c ek hj st pb hS hR
    obtain rfl : n = j + 1 := by omega
    refine codeAny_builtin F.entry_min_loop ?_
    rw [Around.under_plainId F.plain_min_loop _]
    show wpAny _ A.in1 (seqItems? (Value.ref S) >>= _) _ _ s
    refine wpAny_bind (wpAny_seqItems hS rfl ?_)
    show wpAny _ A.in1 (tryCatch (pyNext (Value.ref I)) _ >>= _) _ _ s
    refine wpAny_bind (wpAny_tryCatch (W.done s _ _ st ?_))
    intro h' tk hk
    have hS2 := hk S _ nSw hS
    show wpAny _ A.in1 (updateSeq S (fun _ => (#[] : Array Value)) >>= _) _ _ _
    refine wpAny_bind (wpAny_updateSeq hS2 rfl (wpAny_bind (wpAny_letGo (wpAny_pure ?_))))
    exact hR vb _ tk pb fun b o nb nbS e => (Heap.get?_update_other _ _ (Ne.symm nbS)).trans (hk b o nb e)
  | succ k ih =>
    intro j s vb c ek hj st pb hS hR
    have lt : j + 1 < n := by omega
    refine codeAny_builtin F.entry_min_loop ?_
    rw [Around.under_plainId F.plain_min_loop _]
    show wpAny _ A.in1 (seqItems? (Value.ref S) >>= _) _ _ s
    refine wpAny_bind (wpAny_seqItems hS rfl ?_)
    show wpAny _ A.in1 (tryCatch (pyNext (Value.ref I)) _ >>= _) _ _ s
    refine wpAny_bind (wpAny_tryCatch (W.item (j + 1) s _ _ lt st ?_))
    intro v h' tk pv' st' hk
    have hS2 := hk S _ nSw hS
    show wpAny _ A.in1 (tryCatch (holding [v, v] (richCompare .Lt v vb >>= _)) _ >>= _) _ _ _
    refine wpAny_bind (wpAny_tryCatch (wpAny_holding (wpAny_bind (cmp (j + 1) (argBest bt j) v vb _ _ _ pv' pb ?_))))
    refine wpAny_bind (wpAny_holding (wpAny_truthy_bool (wpAny_bind (wpAny_letGo (wpAny_pure ?_)))))
    by_cases hb : bt (j + 1) (argBest bt j) = true
    · have eb : argBest bt (j + 1) = j + 1 := by unfold argBest; rw [if_pos hb]
      simp only [hb, if_true]
      refine wpAny_bind (wpAny_updateSeq hS2 rfl (wpAny_bind (wpAny_letGo ?_)))
      rw [minLoopName]
      refine wpAny_pure ⟨plainId_quiet F.plain_min_loop _, ih (j + 1) _ v _ (by omega) lt (W.frame _ _ _ st' fun b bf o e => ?_) (by rw [eb]; exact pv') (Heap.get?_update_self _ hS2 rfl) fun v2 h2 tk2 p2 k2 => ?_⟩
      · exact (Heap.get?_update_other _ _ (show S ≠ b from fun z => nS (by rw [z]; exact bf))).trans e
      · exact hR v2 h2 tk2 p2 fun b o nb nbS e => k2 b o nb nbS ((Heap.get?_update_other _ _ (Ne.symm nbS)).trans (hk b o nb e))
    · have eb : argBest bt (j + 1) = argBest bt j := by
        show (if bt (j + 1) (argBest bt j) then j + 1 else argBest bt j) = _
        rw [if_neg hb]
      simp only [hb, if_false, Bool.false_eq_true]
      refine wpAny_bind (wpAny_letGo ?_)
      rw [minLoopName]
      exact wpAny_pure ⟨plainId_quiet F.plain_min_loop _, ih (j + 1) _ vb c (by omega) lt st' (by rw [eb]; exact pb) hS2 fun v2 h2 tk2 p2 k2 => hR v2 h2 tk2 p2 fun b o nb nbS e => k2 b o nb nbS (hk b o nb e)⟩
theorem min_first (W : Walks prog w A.in1 I fp wr n Pn Sn) (bt : Nat → Nat → Bool) (cmp : CmpOf prog w A.in1 .Lt Pn bt) (S : Addr) (nS : S ∉ fp) (pos : 0 < n) {s : Shared} {c : Nat} (st : Sn 0 s.heap) (hS : s.heap.get? S = some { cls := .type "list", dict := none, data := .seq #[] c, slots := #[] })
    (hR : ∀ v h' tk, Pn (argBest bt (n - 1)) v → (∀ b o, b ∉ wr → b ≠ S → s.heap.get? b = some o → h'.get? b = some o) →
      R (.ok (.ret v)) { s with heap := h', toks := tk }) :
    codeAny (model prog w) A (.builtin "min.loop" ⟨[.ref I, .none, .ref S], kw⟩) R s := by
  have nSw : S ∉ wr := fun z => nS (W.sub _ z)
  refine codeAny_builtin F.entry_min_loop ?_
  rw [Around.under_plainId F.plain_min_loop _]
  show wpAny _ A.in1 (seqItems? (Value.ref S) >>= _) _ _ s
  refine wpAny_bind (wpAny_seqItems hS rfl ?_)
  show wpAny _ A.in1 (tryCatch (pyNext (Value.ref I)) _ >>= _) _ _ s
  refine wpAny_bind (wpAny_tryCatch (W.item 0 s _ _ pos st ?_))
  intro v h' tk pv' st' hk
  have hS2 := hk S _ nSw hS
  show wpAny _ A.in1 (updateSeq S (fun _ => #[v, v]) >>= _) _ _ _
  refine wpAny_bind (wpAny_updateSeq hS2 rfl ?_)
  rw [minLoopName]
  refine wpAny_pure ⟨plainId_quiet F.plain_min_loop _, min_turns W bt cmp S nS _ 0 _ v _ rfl pos (W.frame _ _ _ st' fun b bf o e => ?_) pv' (Heap.get?_update_self _ hS2 rfl) fun v2 h2 tk2 p2 k2 => ?_⟩
  · exact (Heap.get?_update_other _ _ (show S ≠ b from fun z => nS (by rw [z]; exact bf))).trans e
  · exact hR v2 h2 tk2 p2 fun b o nb nbS e => k2 b o nb nbS ((Heap.get?_update_other _ _ (Ne.symm nbS)).trans (hk b o nb e))
theorem min_none (W : Walks prog w A.in1 I fp wr 0 Pn Sn) (S : Addr) (nS : S ∉ fp) {x : Str} {d : Value} {s : Shared} {c : Nat} (st : Sn 0 s.heap) (hS : s.heap.get? S = some { cls := .type "list", dict := none, data := .seq #[] c, slots := #[] })
    (hR : ∀ h' tk, (∀ b o, b ∉ wr → s.heap.get? b = some o → h'.get? b = some o) → R (.ok (.ret d)) { s with heap := h', toks := tk }) :
    codeAny (model prog w) A (.builtin "min.loop" ⟨[.ref I, .none, .ref S], [(x, d)]⟩) R s := by
  refine codeAny_builtin F.entry_min_loop ?_
  rw [Around.under_plainId F.plain_min_loop _]
  show wpAny _ A.in1 (seqItems? (Value.ref S) >>= _) _ _ s
  refine wpAny_bind (wpAny_seqItems hS rfl ?_)
  show wpAny _ A.in1 (tryCatch (pyNext (Value.ref I)) _ >>= _) _ _ s
  refine wpAny_bind (wpAny_tryCatch (W.done s _ _ st ?_))
  intro h' tk hk
  exact wpAny_bind (wpAny_rule (wpAny_pure (hR h' tk hk)))
end
theorem args_dflt (a v : Value) : argsOk "min" ⟨[a], [(Str.ofString "default", v)]⟩ := by unfold argsOk; kernel_rfl
section
variable {prog : Program} {w : World} {A : Around} {E : Value → Shared → Prop} {s : Shared} {l : Addr} {xs : Array (Int × Tok)}
theorem min_default {Q : Value → Shared → Prop} (hh : A.handled = none) (hl : s.heap.IsList l (intItems xs))
    (h0 : xs.size = 0 → ∀ h' tk, (∀ b o, s.heap.get? b = some o → h'.get? b = some o) → Q .none { s with heap := h', toks := tk })
    (h1 : 0 < xs.size → ∀ v h' tk, (intItems xs)[argBest (fun i j => decide (numAt xs i < numAt xs j)) (xs.size - 1)]? = some v → (∀ b o, s.heap.get? b = some o → h'.get? b = some o) → Q v { s with heap := h', toks := tk }) :
    wpAny (model prog w) A (call (.builtin "min") [.ref l] [(Str.ofString "default", .none)]) Q E s := by
  refine PyProof.Rows.kmk_tree F.kind_min F.plain_min F.entry_min (args_dflt _ _) ?_
  show wpAny _ A.in1 (Builtin.Builtins.bindParams "min" ["key", "default"] 0 ⟨[], [(Str.ofString "default", Value.none)]⟩ >>= _) _ _ s
  refine wpAny_bind (wpAny_of_eq (show Builtin.Builtins.bindParams "min" ["key", "default"] 0 ⟨[], [(Str.ofString "default", Value.none)]⟩ = pure [none, some Value.none] from rfl) ?_)
  refine wpAny_bind (wpAny_pure (wpAny_bind (iter_intList hl ?_)))
  intro s2 es st hfp nlI
  subst es
  refine wpAny_bind (wpAny_newObj_type ?_)
  rw [minLoopName]
  have W := Walks.list (prog := prog) (w := w) (A := A.in1) hh s.heap.objs.size l nlI (intItems xs)
  have nS : (s.heap.push { cls := .type "list_iterator", data := .fields #[.ref l, .int 0 0] }).objs.size ∉ [s.heap.objs.size, l] := fun z => Nat.lt_irrefl _ (hfp _ z)
  have ez : (intItems xs).size = xs.size := by simp [intItems]
  have kept : ∀ h' : Heap, (∀ b o, b ∉ [s.heap.objs.size] → b ≠ (s.heap.push { cls := .type "list_iterator", data := .fields #[.ref l, .int 0 0] }).objs.size →
      ((s.heap.push { cls := .type "list_iterator", data := .fields #[.ref l, .int 0 0] }).push { cls := .type "list", data := .seq #[] 0 }).get? b = some o → h'.get? b = some o) →
      ∀ b o, s.heap.get? b = some o → h'.get? b = some o := fun h' hk => old_kept fun b o nb e => hk b o nb (Nat.ne_of_lt (Heap.lt_size e)) (Heap.get?_push_of_some _ e)
  rcases Nat.eq_zero_or_pos xs.size with hz | hz
  · rw [ez, hz] at W
    exact wpAny_pure ⟨plainId_quiet F.plain_min_loop _, min_none W _ nS (W.frame _ _ _ st fun b _ o e => Heap.get?_push_of_some _ e) (Heap.get?_push_size _ rfl) fun h' tk hk => h0 hz h' tk (kept h' fun b o nb _ e => hk b o nb e)⟩
  · refine wpAny_pure ⟨plainId_quiet F.plain_min_loop _, min_first W _ (CmpOf.ints_lt (numAt xs) fun _ _ => intItems_at) _ nS (by rw [ez]; exact hz) (W.frame _ _ _ st fun b _ o e => Heap.get?_push_of_some _ e) (Heap.get?_push_size _ rfl) fun v h' tk pv' hk => ?_⟩
    rw [ez] at pv'
    exact h1 hz v h' tk pv' (kept h' hk)
end
/-- the least of a list of ints, or nothing -/
def leastV (ns : List Int) : V → Prop := fun v => (ns = [] ∧ v = .non) ∨ ∃ m : Int, m ∈ ns ∧ (∀ y ∈ ns, m ≤ y) ∧ v = .int m
def rMinD (K : PySem.W.Frag) : List V → List V → Hp → VK → Prop := fun vs zs H Q => ∃ (a : Addr) (ns : List Int), vs = [V.ref a] ∧ zs = [V.non] ∧ SqL K H a (ns.map V.int) ∧ ∀ v, leastV ns v → Q v H
theorem cr_minD {X : Cx} (hc : X.calm = true) : CallRK X (.builtin "min") ["default"] (rMinD X.K) := by
  intro pins s σ H vs zs us ws Q I r rz h
  obtain ⟨a, ns, rfl, rfl, hs, q⟩ := h
  obtain ⟨its, rv, hl, _⟩ := I.list hs
  rw [Vals.ref1 r]
  obtain ⟨d, rfl, rd⟩ := vals1 rz
  cases (show d = Value.none from rd)
  have hi := rv.ints
  obtain ⟨xs, e⟩ := hi.allInts.items
  have hn : numsOf (intItems xs).toList = ns := by rw [← e]; exact hi.numsOf
  rw [nums_intItems] at hn
  subst hn
  have hl2 := hl.isList
  rw [e] at hl2
  refine min_default (I.ok.hd hc) hl2 (fun hz h' tk hk => ⟨.non, H, I.kept hk, rfl, q _ (.inl ⟨?_, rfl⟩)⟩) (fun hz v h' tk hv hk => ?_)
  · have : xs.toList.length = 0 := by simpa using hz
    rw [List.length_eq_zero_iff.mp this]
    rfl
  · obtain ⟨t, rfl⟩ := intItems_at hv
    obtain ⟨b1, b2⟩ := argBest_lt (numAt xs) (xs.size - 1)
    refine ⟨.int _, H, I.kept hk, ⟨_, rfl⟩, q _ (.inr ⟨_, ?_, fun y hy => ?_, rfl⟩)⟩
    · rw [numAt_eq]
      exact PySem.getD_mem (by rw [List.length_map, Array.length_toList]; omega)
    · obtain ⟨j, hj, rfl⟩ := mem_getD hy
      rw [List.length_map, Array.length_toList] at hj
      rw [← numAt_eq]
      exact b2 j (by omega)
end RS
namespace RS
open PySem L2
structure TxtP (K : PySem.W.Frag) (mg : Str → Option Value) (CLp : Addr) : Prop where
  cl : Cls K CLp
  nP : NoAttr K CLp "_period"
  nF : NoAttr K CLp "_first"
  nO : NoAttr K CLp "_offsets"
  nC : NoAttr K CLp "_clients"
  nL : NoAttr K CLp "_lone"
  nH : NoAttr K CLp "_changed"
  mgP : mg "Loop" = some (.ref CLp)
theorem flds_cons (g t o : Addr) : flds g t o ≠ [] := fun e => by
  have := flds_g g t o
  rw [e] at this
  cases this
def entF (f : Int → List Nat) (L : List Int) (c : Nat) : Int → List Nat := fun r => if r ∈ L then f r ++ [c] else f r
theorem entF_snoc (f : Int → List Nat) (L : List Int) (c : Nat) {r : Int} (h : r ∉ L) : (fun x => if x = r then entF f L c r ++ [c] else entF f L c x) = entF f (L ++ [r]) c := by
  funext x
  unfold entF
  by_cases hx : x = r
  · subst hx
    rw [if_pos rfl, if_neg h, if_pos (List.mem_append_right _ (List.mem_singleton.mpr rfl))]
  · rw [if_neg hx]
    by_cases hl : x ∈ L
    · rw [if_pos hl, if_pos (List.mem_append_left _ hl)]
    · rw [if_neg hl, if_neg (fun z => (List.mem_append.mp z).elim hl fun z => hx (List.mem_singleton.mp z))]
theorem erase_at : ∀ (l : List Nat) (c : Nat), c ∈ l → ∃ j, l[j]? = some c ∧ (∀ i, i < j → l[i]? ≠ some c) ∧ l.eraseIdx j = l.erase c
  | [], _, h => nomatch h
  | a :: l, c, h => by
    by_cases e : a = c
    · subst e
      exact ⟨0, rfl, fun i hi => absurd hi (Nat.not_lt_zero _), by rw [List.erase_cons_head]; rfl⟩
    · obtain ⟨j, h1, h2, h3⟩ := erase_at l c ((List.mem_cons.mp h).resolve_left fun z => e z.symm)
      refine ⟨j + 1, h1, fun i hi => ?_, ?_⟩
      · cases i with
        | zero => exact fun z => e (Option.some.inj z)
        | succ i => exact h2 i (by omega)
      · rw [List.erase_cons_tail (by simpa using e), ← h3]
        rfl
theorem inV_nat (c : Nat) (l : List Nat) : inV (.int (c : Int)) (l.map nV) = decide (c ∈ l) := by
  rw [Bool.eq_iff_iff, decide_eq_true_iff]
  unfold inV
  rw [List.any_eq_true]
  constructor
  · rintro ⟨y, hy, e⟩
    obtain ⟨z, hz, rfl⟩ := List.mem_map.mp hy
    have e : ((z : Int) == (c : Int)) = true := e
    have := eq_of_beq e
    have : z = c := by omega
    rw [← this]
    exact hz
  · intro h
    exact ⟨nV c, List.mem_map.mpr ⟨c, h, rfl⟩, (beq_self_eq_true (c : Int) : ((c : Int) == (c : Int)) = true)⟩
theorem nats_flat (l : List Nat) : (l.map nV).all flatV = true := by
  rw [List.all_eq_true]
  intro x hx
  obtain ⟨n, _, rfl⟩ := List.mem_map.mp hx
  rfl
section
variable {P : Program} {w : World} {K : PySem.W.Frag} {mg : Str → Option Value} {base : Heap}
section
variable {C p o d : Addr} {gs : List Int} {m : Nat} {ks : List Int} {as : List Addr} {f : Int → List Nat} {L : Option Int} {ch : Bool} {H : Hp} {σ : L2.St} {i : Nat}
theorem rpP {Q : VK} (T : TxtP K mg C) (R : LoopAt C H p o d gs m ks as f L ch) (hi : σ[i]? = some (some (.ref p))) (z : Q (.int (per gs m)) H) : tFld K (tVar i) "_period" σ H Q := by
  obtain ⟨dx, h⟩ := R.ob
  exact ⟨_, hi, p, C, dx, _, _, rfl, h, T.cl, T.nP, lpf_P _ _ _ _ _ _, z⟩
theorem rpF {Q : VK} (T : TxtP K mg C) (R : LoopAt C H p o d gs m ks as f L ch) (hi : σ[i]? = some (some (.ref p))) (z : Q (.int ((gs.length - m : Nat) : Int)) H) : tFld K (tVar i) "_first" σ H Q := by
  obtain ⟨dx, h⟩ := R.ob
  exact ⟨_, hi, p, C, dx, _, _, rfl, h, T.cl, T.nF, lpf_F _ _ _ _ _ _, z⟩
theorem rpO {Q : VK} (T : TxtP K mg C) (R : LoopAt C H p o d gs m ks as f L ch) (hi : σ[i]? = some (some (.ref p))) (z : Q (.ref o) H) : tFld K (tVar i) "_offsets" σ H Q := by
  obtain ⟨dx, h⟩ := R.ob
  exact ⟨_, hi, p, C, dx, _, _, rfl, h, T.cl, T.nO, lpf_o _ _ _ _ _ _, z⟩
theorem rpC {Q : VK} (T : TxtP K mg C) (R : LoopAt C H p o d gs m ks as f L ch) (hi : σ[i]? = some (some (.ref p))) (z : Q (.ref d) H) : tFld K (tVar i) "_clients" σ H Q := by
  obtain ⟨dx, h⟩ := R.ob
  exact ⟨_, hi, p, C, dx, _, _, rfl, h, T.cl, T.nC, lpf_d _ _ _ _ _ _, z⟩
theorem rpL {Q : VK} (T : TxtP K mg C) (R : LoopAt C H p o d gs m ks as f L ch) (hi : σ[i]? = some (some (.ref p))) (z : Q (optV L) H) : tFld K (tVar i) "_lone" σ H Q := by
  obtain ⟨dx, h⟩ := R.ob
  exact ⟨_, hi, p, C, dx, _, _, rfl, h, T.cl, T.nL, lpf_L _ _ _ _ _ _, z⟩
theorem rpH {Q : VK} (T : TxtP K mg C) (R : LoopAt C H p o d gs m ks as f L ch) (hi : σ[i]? = some (some (.ref p))) (z : Q (.bl ch) H) : tFld K (tVar i) "_changed" σ H Q := by
  obtain ⟨dx, h⟩ := R.ob
  exact ⟨_, hi, p, C, dx, _, _, rfl, h, T.cl, T.nH, lpf_c _ _ _ _ _ _, z⟩
/-- the loop's object written anew -/
theorem LoopAt.obj (R : LoopAt C H p o d gs m ks as f L ch) {dx : Addr} {L2 : Option Int} {c2 : Bool} : LoopAt C (upd H p (.ins C dx (lpf (.int (per gs m)) (.int ((gs.length - m : Nat) : Int)) o d (optV L2) c2))) p o d gs m ks as f L2 c2 := by
  have n := R.npd
  refine ⟨⟨dx, upd_same⟩, by rw [upd_ne n.2.1]; exact R.ho, R.D.keep (upd_ne n.1) fun a ha => upd_ne fun e => n.2.2.1 (e ▸ ha), R.no, R.kb, R.bd, R.okG, R.h1, R.h2⟩
/-- self._changed = x -/
theorem rpSet {D : Ends} {x : Bool} (T : TxtP K mg C) (R : LoopAt C H p o d gs m ks as f L ch) (hi : σ[i]? = some (some (.ref p))) (z : ∀ H', Kx p H H' → LoopAt C H' p o d gs m ks as f L x → D.nx σ H') : sFld K (tVar i) (tC (.bl x)) "_changed" D σ H := by
  obtain ⟨dx, h⟩ := R.ob
  refine ⟨_, hi, p, C, dx, _, rfl, h, T.cl, T.nH, (by show 6 < 1000; decide), ?_⟩
  rw [lpf_sc]
  exact z _ Kx.upd R.obj
end
/-! ### Loop.__init__ -/
def spLp (C CLp : Addr) : Sp := fun vs H Q _ => ∃ (p dx r g t o' : Addr) (gs : List Int) (m : Nat), vs = [.ref p, .ref r] ∧ H p = some (.ins CLp dx []) ∧ RuleAt C H r g t o' gs (.rep m) ∧
  ∀ (o d : Addr) (H' : Hp), H o = none → H d = none → (∀ b u, H b = some u → b ≠ p → H' b = some u) → LoopAt CLp H' p o d gs m [] [] (fun _ => []) none false → Q .non H'
theorem scLp : FnScope ["self", "rule"] ["self", "rule"] (defScope s_Loop_ddinitdd) := ⟨rfl, rfl, rfl, by decide +kernel, rfl, by decide +kernel, by decide +kernel⟩
theorem RuleAt.offx {C p : Addr} {H : Hp} {r g t o : Addr} {gs : List Int} {tl : Tl} {u : HO} (R : RuleAt C H r g t o gs tl) (h : ∃ C2 dx2 fs, H p = some (.ins C2 dx2 fs)) (nr : r ≠ p) : RuleAt C (upd H p u) r g t o gs tl := by
  obtain ⟨C2, dx2, fs, e⟩ := h
  exact R.kx (a := p) (fun b o' nb e => by rw [upd_ne nb]; exact e) nr (ne_of R.hg e (by intro z; cases z)) (ne_of R.ht e (by intro z; cases z)) (ne_of R.ho e (by intro z; cases z))
theorem ok_lp {f C CLp fP fF fO : Addr} {fd fdP fdF fdO : FuncData} (F : Fun K "__init__" "Loop.__init__" s_Loop_ddinitdd f fd) (T : Txt K mg C) (TP : TxtP K mg CLp) (GP : FnOk P w K mg base CX0 2 fP fdP ["self"] (spPer C)) (bP : Binds K fdP ["self"] []) (mP : Meth K C "period" fP)
    (GF : FnOk P w K mg base CX0 1 fF fdF ["self"] (spFR C)) (bF : Binds K fdF ["self"] []) (mF : Meth K C "first_repeating" fF) (GO : FnOk P w K mg base CX0 3 fO fdO ["rule"] (spRO C)) (bO : Binds K fdO ["rule"] []) (mO : mg "repeating_offsets" = some (.ref fO)) (kO : PySem.W.keepIn K (.ref fO) = true) : FnOk P w K mg base CX0 4 f fd ["self", "rule"] (spLp C CLp) := by
  refine F.ok scLp (fun vs H Q E h => ?_) (fun cdv A outer s H vs Q E hr h => ?_)
  · obtain ⟨p, dx, r, g, t, o', gs, m, rfl, _⟩ := h
    rfl
  · obtain ⟨p, dx, r, g, t, o', gs, m, rfl, hp, R, k⟩ := h
    have hr1 := hr.mono (show 1 ≤ 3 by decide)
    have hr2 := hr.mono (show 2 ≤ 3 by decide)
    refine ⟨_, (pss_cons (ps_fld (pv 0) (pe_meth0 (pv 1) T.cl mP GP hr2 bP .nil pass0) rfl) (pss_cons (ps_fld (pv 0) (pe_meth0 (pv 1) T.cl mF GF hr1 bF .nil pass0) rfl) (pss_cons (ps_fld (pv 0) (pe_call GO hr rfl mO kO bO .nil pass0 (pa_cons (pv 1) pa_nil)) rfl) (pss_cons (ps_fld (pv 0) pe_dnewK rfl) (pss_cons (ps_fld (pv 0) pe_non rfl) (pss_one (ps_fld (pv 0) pe_bl rfl))))))), ?_⟩
    obtain ⟨dxr, hob⟩ := R.ob
    have nrp : r ≠ p := ne_of hob hp (by intro z; injection z with z1 z2 z3; exact flds_cons g t o' z3)
    refine ⟨_, rfl, r, dxr, _, rfl, hob, flds_no _ _ _ (by decide +kernel) (by decide +kernel) (by decide +kernel), r, g, t, o', gs, .rep m, rfl, R, ?_⟩
    refine ⟨_, rfl, p, CLp, dx, _, rfl, hp, TP.cl, TP.nP, (by show 0 < 1000; decide), ?_⟩
    have R1 := R.offx (u := .ins CLp dx (putF "_period" (perV gs (.rep m)) [])) ⟨_, _, _, hp⟩ nrp
    have hp1 := upd_same (H := H) (a := p) (o := .ins CLp dx (putF "_period" (perV gs (.rep m)) []))
    have kp1 : ∀ b u, H b = some u → b ≠ p → (upd H p (.ins CLp dx (putF "_period" (perV gs (.rep m)) []))) b = some u := fun b u e nb => by rw [upd_ne nb]; exact e
    have nn1 : ∀ b, (upd H p (.ins CLp dx (putF "_period" (perV gs (.rep m)) []))) b = none → H b = none := fun b hb => by
      by_cases e : b = p
      · subst e
        rw [hp1] at hb
        cases hb
      · rw [upd_ne e] at hb
        exact hb
    generalize upd H p (.ins CLp dx (putF "_period" (perV gs (.rep m)) [])) = H1 at R1 hp1 kp1 nn1
    obtain ⟨dxr1, hob1⟩ := R1.ob
    refine ⟨_, rfl, r, dxr1, _, rfl, hob1, flds_no _ _ _ (by decide +kernel) (by decide +kernel) (by decide +kernel), r, g, t, o', gs, m, rfl, R1, ?_⟩
    refine ⟨_, rfl, p, CLp, dx, _, rfl, hp1, TP.cl, TP.nF, (by show 1 < 1000; decide), ?_⟩
    have R2 := R1.offx (u := .ins CLp dx (putF "_first" (.int ((gs.length - m : Nat) : Int)) (putF "_period" (perV gs (.rep m)) []))) ⟨_, _, _, hp1⟩ nrp
    have hp2 := upd_same (H := H1) (a := p) (o := .ins CLp dx (putF "_first" (.int ((gs.length - m : Nat) : Int)) (putF "_period" (perV gs (.rep m)) [])))
    have kp2 : ∀ b u, H1 b = some u → b ≠ p → (upd H1 p (.ins CLp dx (putF "_first" (.int ((gs.length - m : Nat) : Int)) (putF "_period" (perV gs (.rep m)) [])))) b = some u := fun b u e nb => by rw [upd_ne nb]; exact e
    have nn2 : ∀ b, (upd H1 p (.ins CLp dx (putF "_first" (.int ((gs.length - m : Nat) : Int)) (putF "_period" (perV gs (.rep m)) [])))) b = none → H1 b = none := fun b hb => by
      by_cases e : b = p
      · subst e
        rw [hp2] at hb
        cases hb
      · rw [upd_ne e] at hb
        exact hb
    generalize upd H1 p (.ins CLp dx (putF "_first" (.int ((gs.length - m : Nat) : Int)) (putF "_period" (perV gs (.rep m)) []))) = H2 at R2 hp2 kp2 nn2
    refine ⟨_, rfl, r, g, t, o', gs, m, rfl, R2, fun q H3 hq S3 hq3 => ?_⟩
    have hp3 := S3 _ _ hp2
    have npq : p ≠ q := ne_of_none hp2 hq
    refine ⟨_, rfl, p, CLp, dx, _, rfl, hp3, TP.cl, TP.nO, (by show 2 < 1000; decide), ?_⟩
    have hp4 := upd_same (H := H3) (a := p) (o := .ins CLp dx (putF "_offsets" (.ref q) (putF "_first" (.int ((gs.length - m : Nat) : Int)) (putF "_period" (perV gs (.rep m)) []))))
    have kp4 : ∀ b u, H3 b = some u → b ≠ p → (upd H3 p (.ins CLp dx (putF "_offsets" (.ref q) (putF "_first" (.int ((gs.length - m : Nat) : Int)) (putF "_period" (perV gs (.rep m)) []))))) b = some u := fun b u e nb => by rw [upd_ne nb]; exact e
    have nn4 : ∀ b, (upd H3 p (.ins CLp dx (putF "_offsets" (.ref q) (putF "_first" (.int ((gs.length - m : Nat) : Int)) (putF "_period" (perV gs (.rep m)) []))))) b = none → H3 b = none := fun b hb => by
      by_cases e : b = p
      · subst e
        rw [hp4] at hb
        cases hb
      · rw [upd_ne e] at hb
        exact hb
    generalize upd H3 p (.ins CLp dx (putF "_offsets" (.ref q) (putF "_first" (.int ((gs.length - m : Nat) : Int)) (putF "_period" (perV gs (.rep m)) [])))) = H4 at hp4 kp4 nn4
    have hq4 := kp4 _ _ hq3 npq.symm
    refine fun d hd => ?_
    have npd : p ≠ d := ne_of_none hp4 hd
    have nqd : q ≠ d := ne_of_none hq4 hd
    refine ⟨_, rfl, p, CLp, dx, _, rfl, (by rw [upd_ne npd]; exact hp4), TP.cl, TP.nC, (by show 3 < 1000; decide), ?_⟩
    refine ⟨_, rfl, p, CLp, dx, _, rfl, upd_same, TP.cl, TP.nL, (by show 4 < 1000; decide), ?_⟩
    refine ⟨_, rfl, p, CLp, dx, _, rfl, upd_same, TP.cl, TP.nH, (by show 5 < 1000; decide), ?_⟩
    have ef : putF "_changed" (.bl false) (putF "_lone" V.non (putF "_clients" (.ref d) (putF "_offsets" (.ref q) (putF "_first" (.int ((gs.length - m : Nat) : Int)) (putF "_period" (perV gs (.rep m)) []))))) = lpf (.int (per gs m)) (.int ((gs.length - m : Nat) : Int)) q d (optV none) false := by
      show putF "_changed" _ (putF "_lone" _ (putF "_clients" _ (putF "_offsets" _ (putF "_first" _ [(("_period" : Str), V.int (per gs m))])))) = _
      rw [pfn (f := "_first") (by decide +kernel)]
      show putF "_changed" _ (putF "_lone" _ (putF "_clients" _ (putF "_offsets" _ [(("_period" : Str), V.int (per gs m)), ("_first", _)]))) = _
      rw [pfn (f := "_offsets") (by decide +kernel), pfn (f := "_offsets") (by decide +kernel)]
      show putF "_changed" _ (putF "_lone" _ (putF "_clients" _ [(("_period" : Str), V.int (per gs m)), ("_first", _), ("_offsets", _)])) = _
      rw [pfn (f := "_clients") (by decide +kernel), pfn (f := "_clients") (by decide +kernel), pfn (f := "_clients") (by decide +kernel)]
      show putF "_changed" _ (putF "_lone" _ [(("_period" : Str), V.int (per gs m)), ("_first", _), ("_offsets", _), ("_clients", _)]) = _
      rw [pfn (f := "_lone") (by decide +kernel), pfn (f := "_lone") (by decide +kernel), pfn (f := "_lone") (by decide +kernel), pfn (f := "_lone") (by decide +kernel)]
      show putF "_changed" _ [(("_period" : Str), V.int (per gs m)), ("_first", _), ("_offsets", _), ("_clients", _), ("_lone", _)] = _
      rw [pfn (f := "_changed") (by decide +kernel), pfn (f := "_changed") (by decide +kernel), pfn (f := "_changed") (by decide +kernel), pfn (f := "_changed") (by decide +kernel), pfn (f := "_changed") (by decide +kernel)]
      rfl
    rw [ef]
    refine k q d _ (nn1 _ (nn2 _ hq)) (nn1 _ (nn2 _ (S3.free (nn4 _ hd)))) (fun b u e nb => ?_) ⟨⟨dx, upd_same⟩, ?_, ⟨?_, List.Pairwise.nil, List.Pairwise.nil, rfl, (fun j r a e _ => nomatch e), fun _ _ => rfl⟩, (fun h => nomatch h), fun r hr => (nomatch hr), fun r => Nat.zero_le _, R.okG, R.okT.1, R.okT.2⟩
    · rw [upd_ne nb, upd_ne nb, upd_ne nb]
      have e4 := kp4 _ _ (S3 _ _ (kp2 _ _ (kp1 _ _ e nb) nb)) nb
      rw [upd_ne (ne_of_none e4 hd)]
      exact e4
    · rw [upd_ne npq.symm, upd_ne npq.symm, upd_ne npq.symm, upd_ne nqd]
      exact hq4
    · rw [upd_ne npd.symm, upd_ne npd.symm, upd_ne npd.symm, upd_same]
      rfl
end
end RS
namespace RS
open PySem L2
section
variable {P : Program} {w : World} {K : PySem.W.Frag} {mg : Str → Option Value} {base : Heap}
/-! ### Loop.enter -/
theorem forO {C p o d : Addr} {gs : List Int} {m : Nat} {ks : List Int} {as : List Addr} {f : Int → List Nat} {L : Option Int} {ch : Bool} {H : Hp} {σ : L2.St} {i : Nat} {g : TG} {tb : TS} {D : Ends} (T : TxtP K mg C) (R : LoopAt C H p o d gs m ks as f L ch) (hi : σ[i]? = some (some (.ref p)))
    (z : ∃ W : Nat → Nat → L2.St → Hp → Prop, (∃ m, W 0 m σ H) ∧ ∀ i m σ H, W i m σ H → ((Itl K o).stop i H ∧ D.nx σ H) ∨ ((Itl K o).go i H ∧ ∃ N : L2.St → Hp → Prop, (∀ σ' H', N σ' H' → ∃ m', m' < m ∧ W (i + 1) m' σ' H') ∧ ∀ x H', (Itl K o).yld i H x H' → g x σ H' fun σ2 H2 => tb { D with nx := N, ct := N, bk := D.nx } σ2 H2)) :
    tFor (iList K (tFld K (tVar i) "_offsets")) g tb D σ H := by
  dsimp only [tFor, iList]
  exact rpO T R hi ⟨o, rfl, ⟨_, SqL.of R.ho⟩, z⟩
/-- what the loop owns may be written, and new lists be added -/
structure Grown (H H' : Hp) (p d : Addr) (as as' : List Addr) : Prop where
  fp : FpL p d as H H'
  nw : ∀ a ∈ as', a ∈ as ∨ H a = none
  sub : ∀ a ∈ as, a ∈ as'
theorem Grown.refl {H : Hp} {p d : Addr} {as : List Addr} : Grown H H p d as as := ⟨fun _ _ e _ _ _ => e, fun _ h => .inl h, fun _ h => h⟩
theorem Grown.same {H H1 H2 : Hp} {p d : Addr} {as as' : List Addr} (G : Grown H H1 p d as as') (S : Same H1 H2) : Grown H H2 p d as as' := ⟨fun c u e a b z => S _ _ (G.fp c u e a b z), G.nw, G.sub⟩
theorem Grown.trans {H H1 H2 : Hp} {p d : Addr} {as a1 a2 : List Addr} (G : Grown H H1 p d as a1) (G2 : Grown H1 H2 p d a1 a2) (hn : ∀ a, H1 a = none → a ≠ p → a ≠ d → a ∉ as → H a = none) (hp : p ∉ a2) (hd : d ∉ a2) : Grown H H2 p d as a2 := by
  refine ⟨fun c u e n1 n2 n3 => G2.fp c u (G.fp c u e n1 n2 n3) n1 n2 fun z => ?_, fun a ha => ?_, fun a ha => G2.sub a (G.sub a ha)⟩
  · rcases G.nw c z with z | z
    · exact n3 z
    · rw [e] at z
      cases z
  · by_cases h : a ∈ as
    · exact .inl h
    · rcases G2.nw a ha with z | z
      · exact G.nw a z
      · exact .inr (hn a z (fun e => hp (e ▸ ha)) (fun e => hd (e ▸ ha)) h)
theorem Grown.free {H H1 : Hp} {p d : Addr} {as a1 : List Addr} (G : Grown H H1 p d as a1) {a : Addr} (h : H1 a = none) (n1 : a ≠ p) (n2 : a ≠ d) (n3 : a ∉ as) : H a = none := by
  cases e : H a with
  | none => rfl
  | some u =>
    rw [G.fp a u e n1 n2 n3] at h
    cases h
theorem LoopAt.put {C p o d : Addr} {gs : List Int} {m : Nat} {ks : List Int} {as : List Addr} {f : Int → List Nat} {L : Option Int} {ch : Bool} {H : Hp} (R : LoopAt C H p o d gs m ks as f L ch) {j : Nat} {r : Int} {a : Addr} (h1 : ks[j]? = some r) (h2 : as[j]? = some a) (l : List Nat) (hl : l.length ≤ 1000) :
    LoopAt C (upd H a (.lst (l.map nV))) p o d gs m ks as (fun x => if x = r then l else f x) L ch := by
  have hm := List.mem_of_getElem? h2
  have np := R.npd
  refine ⟨let ⟨dx, e⟩ := R.ob; ⟨dx, by rw [upd_ne (fun (z : p = a) => np.2.2.1 (z ▸ hm))]; exact e⟩, by rw [upd_ne (fun (z : o = a) => R.no (z ▸ hm))]; exact R.ho, R.D.set h1 h2 l, R.no, R.kb, fun x => ?_, R.okG, R.h1, R.h2⟩
  show (if x = r then l else f x).length ≤ 1000
  split
  · exact hl
  · exact R.bd x
theorem LoopAt.add {C p o d : Addr} {gs : List Int} {m : Nat} {ks : List Int} {as : List Addr} {f : Int → List Nat} {L : Option Int} {ch : Bool} {H : Hp} (R : LoopAt C H p o d gs m ks as f L ch) {r : Int} {a : Addr} (h : r ∉ ks) (ha : H a = none) (hr : 0 ≤ r ∧ r < per gs m) :
    LoopAt C (upd (upd H a (.lst [])) d (.dK (putK (kvsOf ks as) (Sum.inl r) (.ref a)))) p o d gs m (ks ++ [r]) (as ++ [a]) f L ch := by
  have np := R.npd
  have nao := ne_of_none R.ho ha
  refine ⟨let ⟨dx, e⟩ := R.ob; ⟨dx, by rw [upd_ne np.1.symm, upd_ne (ne_of_none e ha)]; exact e⟩, by rw [upd_ne np.2.2.2.symm, upd_ne nao]; exact R.ho, R.D.add h ha, fun z => ?_, fun x hx => ?_, R.bd, R.okG, R.h1, R.h2⟩
  · rcases List.mem_append.mp z with z | z
    · exact R.no z
    · exact nao (List.mem_singleton.mp z)
  · rcases List.mem_append.mp hx with hx | hx
    · exact R.kb x hx
    · rw [List.mem_singleton.mp hx]
      exact hr
theorem Grown.put {H H1 : Hp} {p d : Addr} {as a1 : List Addr} {u : HO} (G : Grown H H1 p d as a1) {a : Addr} (h : a ∈ a1) : Grown H (upd H1 a u) p d as a1 := by
  refine ⟨fun c v e n1 n2 n3 => ?_, G.nw, G.sub⟩
  have nc : c ≠ a := fun z => by
    subst z
    rcases G.nw c h with y | y
    · exact n3 y
    · rw [e] at y
      cases y
  rw [upd_ne nc]
  exact G.fp c v e n1 n2 n3
theorem Grown.dict {H H1 : Hp} {p d : Addr} {as a1 : List Addr} {u : HO} (G : Grown H H1 p d as a1) : Grown H (upd H1 d u) p d as a1 :=
  ⟨fun c v e n1 n2 n3 => by rw [upd_ne n2]; exact G.fp c v e n1 n2 n3, G.nw, G.sub⟩
theorem Grown.more {H H1 : Hp} {p d : Addr} {as a1 : List Addr} (G : Grown H H1 p d as a1) {a : Addr} (h : H a = none) : Grown H H1 p d as (a1 ++ [a]) :=
  ⟨G.fp, fun b hb => (List.mem_append.mp hb).elim (G.nw b) fun z => .inr (by rw [List.mem_singleton.mp z]; exact h), fun b hb => List.mem_append_left _ (G.sub b hb)⟩
def spEn (C : Addr) : Sp := fun vs H Q _ => ∃ (p o d : Addr) (gs : List Int) (m : Nat) (ks : List Int) (as : List Addr) (f : Int → List Nat) (L : Option Int) (ch : Bool) (c : Nat) (s : Int), vs = [.ref p, .int (c : Int), .int s] ∧ LoopAt C H p o d gs m ks as f L ch ∧ (∀ r, (f r).length ≤ 900) ∧ ks.length ≤ 50000 ∧
  ∀ ks' as' H', Grown H H' p d as as' → ks'.length ≤ ks.length + 20 → LoopAt C H' p o d gs m ks' as' (entF f (resid gs m s) c) L true → Q .non H'
def enN : List Str := ["self", "client", "start", "offset"]
theorem scEn : FnScope enN ["self", "client", "start"] (defScope s_Loop_enter) := ⟨rfl, rfl, rfl, by decide +kernel, rfl, by decide +kernel, by decide +kernel⟩
theorem entF_len {f : Int → List Nat} {L : List Int} {c : Nat} {n : Nat} (h : ∀ r, (f r).length ≤ n) (r : Int) : (entF f L c r).length ≤ n + 1 := by
  unfold entF
  have := h r
  split
  · rw [List.length_append]
    show _ + 1 ≤ _
    omega
  · omega
theorem entF_nil (f : Int → List Nat) (c : Nat) : entF f [] c = f := by
  funext r
  unfold entF
  rw [if_neg (fun h => nomatch h)]
theorem ok_en {f C CLp : Addr} {fd : FuncData} (F : Fun K "enter" "Loop.enter" s_Loop_enter f fd) (T : Txt K mg C) (TP : TxtP K mg CLp) : FnOk P w K mg base CX0 1 f fd ["self", "client", "start"] (spEn CLp) := by
  refine F.ok scEn (fun vs H Q E h => ?_) (fun cdv A outer s H vs Q E hr h => ?_)
  · obtain ⟨p, o, d, gs, m, ks, as, fm, L, ch, c, st, rfl, _⟩ := h
    rfl
  · obtain ⟨p, o, d, gs, m, ks, as, fm, L, ch, c, st, rfl, R, hf, hks, k⟩ := h
    have hu := hu_of hr
    refine ⟨_, (pss_cons (ps_for PassesOwn.never rfl (pi_list (pe_fld (pv 0) rfl)) (pg_name (i := 3) scEn.nd rfl (Or.inl rfl)) (pss_one (ps_expr (pe_bm PySem.F.plainAttrs_list PySem.F.slot_list_append PySem.F.type_list_append mt_append (L2.pe_dsetd (pe_fld (pv 0) rfl) (pe_op op_mod (pe_op op_add (pv 2) (pv 3)) (pe_fld (pv 0) rfl)) (pe_lst pa_nil) ⟨by rfl, by rfl, by rfl, by rfl⟩) (pa_cons (pv 1) pa_nil))))) (pss_one (ps_fld (pv 0) pe_bl rfl))), ?_⟩
    have hper := per_bd R.okG R.h1 R.h2
    have h1 := R.h1
    have hg20 := R.okG.1
    have h2 := R.h2
    have hnd := resid_nodup R.okG R.h1 R.h2 st
    have hol : (repOffs gs m).length = m := by simp [repOffs]
    have ho0 := R.ho
    refine forO TP R rfl ?_
    refine for_list (a := o) (xs := (repOffs gs m).map V.int) (fun j σ H' => ∃ v3 ks' as', σ = [some (.ref p), some (.int (c : Int)), some (.int st), v3] ∧ Grown H H' p d as as' ∧ ks'.length ≤ ks.length + j ∧ LoopAt CLp H' p o d gs m ks' as' (entF fm ((resid gs m st).take j) c) L ch) ⟨none, ks, as, rfl, Grown.refl, Nat.le_refl _, by rw [List.take_zero, entF_nil]; exact R⟩ (fun j σ H' _ z => ?_) ?_ ?_
    · obtain ⟨v3, ks', as', _, _, _, R'⟩ := z
      exact SqL.of R'.ho
    · rintro j x σ H1 hx ⟨v3, ks', as', rfl, G, hl, R1⟩
      obtain ⟨y, hy, rfl⟩ := map_of hx
      have hj := (List.getElem?_eq_some_iff.mp hy).1
      rw [hol] at hj
      have hrr : (resid gs m st)[j]? = some ((st + y) % per gs m) := by
        unfold resid
        rw [List.getElem?_map, hy]
        rfl
      generalize hrv : (st + y) % per gs m = r at hrr
      have hr0 : 0 ≤ r := by rw [← hrv]; exact Int.emod_nonneg _ (by omega)
      have hr1 : r < per gs m := by rw [← hrv]; exact Int.emod_lt_of_pos _ (by omega)
      have hnot : r ∉ (resid gs m st).take j := fun z => by
        obtain ⟨i, hi, e⟩ := List.mem_iff_getElem.mp z
        rw [List.length_take] at hi
        rw [List.getElem_take] at e
        have := nodup_at hnd (List.getElem?_eq_getElem (show i < (resid gs m st).length by omega)) (e ▸ hrr)
        omega
      have etk : (resid gs m st).take (j + 1) = (resid gs m st).take j ++ [r] := by rw [List.take_add_one, hrr]; rfl
      have hfl : ((entF fm ((resid gs m st).take j) c) r).length ≤ 901 := entF_len hf r
      have hbd : ∀ x, (entF fm ((resid gs m st).take (j + 1)) c x).length ≤ 1000 := fun x => Nat.le_trans (entF_len hf x) (by decide)
      have np := R1.npd
      obtain ⟨dx1, hob1⟩ := R1.ob
      refine ⟨_, rfl, p, CLp, dx1, _, _, rfl, hob1, TP.cl, TP.nC, lpf_d _ _ _ _ _ _, d, rfl, .inl ⟨_, .inl R1.D.hd⟩, _, rfl, _, rfl, _, _, rfl, rfl, _, rfl, p, CLp, dx1, _, _, rfl, hob1, TP.cl, TP.nP, lpf_P _ _ _ _ _ _, _, _, rfl, rfl, (by show (0 : Int) < per gs m; omega), (by show 0 ≤ sizeLine; decide), fun l hl0 => ?_⟩
      have S2 := same_new (o := .lst []) hl0
      have R2 := R1.same S2
      have hll : (upd H1 l (.lst [])) l = some (.lst []) := upd_same
      have ell : ∀ b, (upd H1 l (.lst [])) b = none → H1 b = none := fun b hb => S2.free hb
      have S2d := S2 _ _ R1.D.hd
      refine ⟨kvsOf ks' as', Sum.inl r, S2d, congrArg V.int hrv, by rw [kvsOf_len R1.D.len]; exact Nat.lt_of_le_of_lt (show ks'.length ≤ 100000 by omega) (by decide), fun v hv => ?_, fun hv => ?_⟩
      · -- the number is there
        by_cases hm : r ∈ ks'
        case neg =>
          rw [kvsOf_none hm] at hv
          cases hv
        obtain ⟨j', a, hk', ha', hla, hval⟩ := R1.D.at_ hm
        rw [hval] at hv
        cases hv
        refine ⟨.inl ⟨rfl, _, SqL.of (S2 _ _ hla)⟩, _, rfl, a, _, _, rfl, rfl, S2 _ _ hla, ?_, ?_⟩
        · rw [List.length_map]
          exact small1000 (by omega)
        have e1 : (entF fm ((resid gs m st).take j) c r).map nV ++ [V.int (c : Int)] = (entF fm ((resid gs m st).take j) c r ++ [c]).map nV := by
          rw [List.map_append]
          rfl
        rw [e1]
        refine ⟨_, ks', as', rfl, (G.same S2).put (List.mem_of_getElem? ha'), by omega, ?_⟩
        have R3 := R2.put hk' ha' (entF fm ((resid gs m st).take j) c r ++ [c]) (by rw [List.length_append]; show _ + 1 ≤ 1000; omega)
        rw [entF_snoc _ _ _ hnot, ← etk] at R3
        exact R3
      · -- the number is new
        have hm : r ∉ ks' := fun hm => by
          obtain ⟨j', a, hk', ha', hla, hval⟩ := R1.D.at_ hm
          rw [hval] at hv
          cases hv
        have nld : l ≠ d := (ne_of_none R1.D.hd hl0).symm
        have hl3 : (upd (upd H1 l (.lst [])) d (.dK (putK (kvsOf ks' as') (Sum.inl r) (.ref l)))) l = some (.lst []) := by rw [upd_ne nld]; exact hll
        have R3 := R1.add hm hl0 ⟨hr0, hr1⟩
        have hlH : H l = none := G.free hl0 (ne_of_none hob1 hl0).symm nld fun z => by
          obtain ⟨y, e⟩ := R1.D.some_ (G.sub l z)
          rw [hl0] at e
          cases e
        refine ⟨.inl ⟨rfl, _, SqL.of hl3⟩, _, rfl, l, _, _, rfl, rfl, hl3, (by show 0 < sizeLine; decide), ?_⟩
        have hkn : (ks' ++ [r])[ks'.length]? = some r := by rw [List.getElem?_append_right (Nat.le_refl _), Nat.sub_self]; rfl
        have han : (as' ++ [l])[ks'.length]? = some l := by rw [← R1.D.len, List.getElem?_append_right (Nat.le_refl _), Nat.sub_self]; rfl
        have R4 := R3.put hkn han (entF fm ((resid gs m st).take j) c r ++ [c]) (by rw [List.length_append]; show _ + 1 ≤ 1000; omega)
        have e0 : entF fm ((resid gs m st).take j) c r = [] := R1.D.out r hm
        rw [entF_snoc _ _ _ hnot, ← etk, e0] at R4
        exact ⟨_, ks' ++ [r], as' ++ [l], rfl, ((G.same S2).dict.more hlH).put (List.mem_append_right _ (List.mem_singleton.mpr rfl)), by rw [List.length_append]; show _ + 1 ≤ _; omega, R4⟩
    · rintro σ H1 ⟨v3, ks', as', rfl, G, hl, R1⟩
      rw [List.length_map, hol] at hl
      have et : (resid gs m st).take m = resid gs m st := by
        have := List.take_length (l := resid gs m st)
        rwa [resid_len] at this
      rw [List.length_map, hol, et] at R1
      refine rpSet TP R1 rfl fun H2 kx R2 => k ks' as' H2 ⟨fun b u e n1 n2 n3 => kx b u n1 (G.fp b u e n1 n2 n3), G.nw, G.sub⟩ (by omega) R2
end
end RS
namespace RS
open PySem L2
section
variable {P : Program} {w : World} {K : PySem.W.Frag} {mg : Str → Option Value} {base : Heap}
/-! ### Loop.leave -/
theorem nats_ints (l : List Nat) : l.map nV = (l.map fun n : Nat => (n : Int)).map V.int := by rw [List.map_map]; rfl
theorem DictF.get {H : Hp} {d : Addr} {ks : List Int} {as : List Addr} {f : Int → List Nat} (D : DictF H d ks as f) {r : Int} {a : Addr} (hv : valV (kvsOf ks as) (Sum.inl r) = some (.ref a)) : DGet H d (.int r) (some (.ref a)) := .inl ⟨_, Sum.inl r, .inl D.hd, rfl, hv.symm⟩
theorem erase_map {α β : Type} (g : α → β) : ∀ (l : List α) (j : Nat), (l.map g).eraseIdx j = (l.eraseIdx j).map g
  | [], _ => rfl
  | _ :: _, 0 => rfl
  | a :: l, j + 1 => by
    show g a :: (l.map g).eraseIdx j = g a :: (l.eraseIdx j).map g
    rw [erase_map g l j]
def spLv (C : Addr) : Sp := fun vs H Q _ => ∃ (p o d : Addr) (gs : List Int) (m : Nat) (ks : List Int) (as : List Addr) (f : Int → List Nat) (L : Option Int) (ch : Bool) (c : Nat), vs = [.ref p, .int (c : Int)] ∧ LoopAt C H p o d gs m ks as f L ch ∧
  ∀ H', Grown H H' p d as as → LoopAt C H' p o d gs m ks as (fun r => (f r).erase c) L true → Q .non H'
def lvN : List Str := ["self", "client", "residue"]
theorem scLv : FnScope lvN ["self", "client"] (defScope s_Loop_leave) := ⟨rfl, rfl, rfl, by decide +kernel, rfl, by decide +kernel, by decide +kernel⟩
theorem ok_lv {f C CLp : Addr} {fd : FuncData} (F : Fun K "leave" "Loop.leave" s_Loop_leave f fd) (T : Txt K mg C) (TP : TxtP K mg CLp) : FnOk P w K mg base CX0 1 f fd ["self", "client"] (spLv CLp) := by
  refine F.ok scLv (fun vs H Q E h => ?_) (fun cdv A outer s H vs Q E hr h => ?_)
  · obtain ⟨p, o, d, gs, m, ks, as, f, L, ch, c, rfl, _⟩ := h
    rfl
  · obtain ⟨p, o, d, gs, m, ks, as, fm, L, ch, c, rfl, R, k⟩ := h
    have hu := hu_of hr
    refine ⟨_, (pss_cons (ps_for PassesOwn.never rfl (pi_list (pe_callTy (call_list_dK rfl) (by rfl) T.list (by decide +kernel) (pa_cons (pe_fld (pv 0) rfl) pa_nil))) (pg_name (i := 2) scLv.nd rfl (Or.inl rfl)) (pss_one (ps_if (pt_cmpR (r := rIn K false) op_in_seq (pv 1) (pe_dget hu (pe_fld (pv 0) rfl) (pv 2) (fun _ _ => rfl)) (by rfl)) (pss_one (ps_expr (pe_bm PySem.F.plainAttrs_list PySem.F.slot_list_remove PySem.F.type_list_remove mt_remove (pe_dget hu (pe_fld (pv 0) rfl) (pv 2) (fun _ _ => rfl)) (pa_cons (pv 1) pa_nil)))) pss_nil))) (pss_one (ps_fld (pv 0) pe_bl rfl))), ?_⟩
    obtain ⟨dx, hob⟩ := R.ob
    refine ⟨_, rfl, p, CLp, dx, _, _, rfl, hob, TP.cl, TP.nC, lpf_d _ _ _ _ _ _, d, _, rfl, R.D.hd, fun q hq => ?_⟩
    rw [kvsOf_keys R.D.len]
    have S0 := same_new (o := .lst (ks.map V.int)) hq
    have R0 := R.same S0
    have hq0 : (upd H q (.lst (ks.map V.int))) q = some (.lst (ks.map V.int)) := upd_same
    have nqa : q ∉ as := fun z => by
      obtain ⟨y, e⟩ := R.D.some_ z
      rw [hq] at e
      cases e
    have G0 : Grown H (upd H q (.lst (ks.map V.int))) p d as as := Grown.refl.same S0
    generalize upd H q (.lst (ks.map V.int)) = H0 at S0 R0 hq0 G0
    refine ⟨q, rfl, ⟨_, SqL.of hq0⟩, for_list (a := q) (xs := ks.map V.int) (fun i σ H' => ∃ v2, σ = [some (.ref p), some (.int (c : Int)), v2] ∧ Grown H H' p d as as ∧ H' q = some (.lst (ks.map V.int)) ∧ LoopAt CLp H' p o d gs m ks as (fun x => if x ∈ ks.take i then (fm x).erase c else fm x) L ch) ⟨none, rfl, G0, hq0, ?_⟩ (fun i σ H' _ z => ?_) ?_ ?_⟩
    · have e : (fun x => if x ∈ ks.take 0 then (fm x).erase c else fm x) = fm := by
        funext x
        rw [List.take_zero, if_neg (fun h => nomatch h)]
      rw [e]
      exact R0
    · obtain ⟨v2, _, _, z, _⟩ := z
      exact SqL.of z
    · rintro i x σ H1 hx ⟨v2, rfl, G, hq1, R1⟩
      obtain ⟨r, hri, rfl⟩ := map_of hx
      have hi := (List.getElem?_eq_some_iff.mp hri).1
      have hnot : r ∉ ks.take i := fun z => by
        obtain ⟨j, hj, e⟩ := List.mem_iff_getElem.mp z
        rw [List.length_take] at hj
        rw [List.getElem_take] at e
        have := nodup_at R.D.nk (List.getElem?_eq_getElem (show j < ks.length by omega)) (e ▸ hri)
        omega
      have etk : ks.take (i + 1) = ks.take i ++ [r] := by rw [List.take_add_one, hri]; rfl
      obtain ⟨j, a, hkj, haj, hla, hval⟩ := R1.D.at_ (List.mem_of_getElem? hri)
      have efr : (if r ∈ ks.take i then (fm r).erase c else fm r) = fm r := if_neg hnot
      rw [efr] at hla
      have efn : (fun x => if x = r then (fm r).erase c else (if x ∈ ks.take i then (fm x).erase c else fm x)) = (fun x => if x ∈ ks.take (i + 1) then (fm x).erase c else fm x) := by
        funext x
        rw [etk]
        by_cases hxr : x = r
        · subst hxr
          rw [if_pos rfl, if_pos (List.mem_append_right _ (List.mem_singleton.mpr rfl))]
        · rw [if_neg hxr]
          by_cases hl : x ∈ ks.take i
          · rw [if_pos hl, if_pos (List.mem_append_left _ hl)]
          · rw [if_neg hl, if_neg (fun z => (List.mem_append.mp z).elim hl fun z => hxr (List.mem_singleton.mp z))]
      obtain ⟨dx1, hob1⟩ := R1.ob
      have hget := R1.D.get hval
      refine ⟨_, rfl, _, rfl, p, CLp, dx1, _, _, rfl, hob1, TP.cl, TP.nC, lpf_d _ _ _ _ _ _, _, rfl, d, .ref a, rfl, hget, a, _, rfl, .inl (SqL.of hla), rfl, nats_flat _, _, rfl, ?_⟩
      rw [if_neg (by decide), inV_nat]
      have hfl := R.bd r
      by_cases hc : c ∈ fm r
      · refine iteTb (decide_eq_true hc) ?_
        obtain ⟨j2, e1, e2, e3⟩ := erase_at (fm r) c hc
        refine ⟨_, rfl, p, CLp, dx1, _, _, rfl, hob1, TP.cl, TP.nC, lpf_d _ _ _ _ _ _, _, rfl, d, .ref a, rfl, hget, .inl ⟨rfl, _, SqL.of hla⟩, _, rfl, a, (fm r).map fun n : Nat => (n : Int), (c : Int), j2, rfl, rfl, ?_, ?_, ?_, ?_⟩
        · rw [← nats_ints]
          exact hla
        · rw [List.getElem?_map, e1]
          rfl
        · intro i2 hi2 z
          rw [List.getElem?_map] at z
          cases e : (fm r)[i2]? with
          | none => rw [e] at z; cases z
          | some y =>
            rw [e] at z
            have : y = c := by
              have : (y : Int) = (c : Int) := Option.some.inj z
              omega
            exact e2 i2 hi2 (by rw [e, this])
        · have ee : ((fm r).map fun n : Nat => (n : Int)).eraseIdx j2 = ((fm r).erase c).map fun n : Nat => (n : Int) := by
            rw [← e3, erase_map]
          rw [ee, ← nats_ints]
          have R2 := R1.put hkj haj ((fm r).erase c) (Nat.le_trans (List.length_erase_le) hfl)
          rw [efn] at R2
          exact ⟨_, rfl, G.put (List.mem_of_getElem? haj), by rw [upd_ne (fun (z : q = a) => nqa (z ▸ List.mem_of_getElem? haj))]; exact hq1, R2⟩
      · refine iteFb (decide_eq_false hc) ?_
        have ee : (fun x => if x ∈ ks.take i then (fm x).erase c else fm x) = (fun x => if x ∈ ks.take (i + 1) then (fm x).erase c else fm x) := by
          rw [← efn]
          funext x
          by_cases hxr : x = r
          · subst hxr
            rw [if_pos rfl, List.erase_of_not_mem hc, if_neg hnot]
          · rw [if_neg hxr]
        rw [ee] at R1
        exact ⟨_, rfl, G, hq1, R1⟩
    · rintro σ H1 ⟨v2, rfl, G, hq1, R1⟩
      rw [List.length_map, List.take_length] at R1
      have ee : (fun x => if x ∈ ks then (fm x).erase c else fm x) = fun r => (fm r).erase c := by
        funext x
        by_cases h : x ∈ ks
        · rw [if_pos h]
        · rw [if_neg h, R.D.out x h]
          rfl
      rw [ee] at R1
      exact rpSet TP R1 rfl fun H2 kx R2 => k H2 ⟨fun b u e n1 n2 n3 => kx b u n1 (G.fp b u e n1 n2 n3), G.nw, G.sub⟩ R2
/-! ### Loop.clients_in -/
def spCi (C : Addr) : Sp := fun vs H Q _ => ∃ (p o d : Addr) (gs : List Int) (m : Nat) (ks : List Int) (as : List Addr) (f : Int → List Nat) (L : Option Int) (ch : Bool) (s : Int), vs = [.ref p, .int s] ∧ LoopAt C H p o d gs m ks as f L ch ∧
  ∀ q H', H q = none → Same H H' → H' q = some (.lst ((f (s % per gs m)).map nV)) → Q (.ref q) H'
theorem scCi : FnScope ["self", "slot"] ["self", "slot"] (defScope s_Loop_clients_in) := ⟨rfl, rfl, rfl, by decide +kernel, rfl, by decide +kernel, by decide +kernel⟩
theorem ok_ci {f C CLp : Addr} {fd : FuncData} (F : Fun K "clients_in" "Loop.clients_in" s_Loop_clients_in f fd) (T : Txt K mg C) (TP : TxtP K mg CLp) : FnOk P w K mg base CX0 1 f fd ["self", "slot"] (spCi CLp) := by
  refine F.ok scCi (fun vs H Q E h => ?_) (fun cdv A outer s H vs Q E hr h => ?_)
  · obtain ⟨p, o, d, gs, m, ks, as, f, L, ch, s, rfl, _⟩ := h
    rfl
  · obtain ⟨p, o, d, gs, m, ks, as, fm, L, ch, st, rfl, R, k⟩ := h
    have hu := hu_of hr
    refine ⟨_, (pss_cons (ps_if (pt_cmpR op_isN (pe_fld (pv 0) rfl) pe_non (nomark _)) (pss_one (ps_ret (pe_lst pa_nil))) pss_nil) (pss_one (ps_ret (pe_callTy call_list_of (by rfl) T.list (by decide +kernel) (pa_cons (pe_dget2 hu (pe_fld (pv 0) rfl) (pe_op op_mod (pv 1) (pe_fld (pv 0) rfl)) (pe_lst pa_nil) ⟨by rfl, by rfl, by rfl, by rfl⟩) pa_nil))))), ?_⟩
    obtain ⟨dx, hob⟩ := R.ob
    have hper := per_bd R.okG R.h1 R.h2
    have h1 := R.h1
    refine ⟨_, rfl, p, CLp, dx, _, _, rfl, hob, TP.cl, TP.nF, lpf_F _ _ _ _ _ _, rfl, _, rfl, iteFb (decide_eq_false fun e => nomatch e) ?_⟩
    refine ⟨_, rfl, p, CLp, dx, _, _, rfl, hob, TP.cl, TP.nC, lpf_d _ _ _ _ _ _, d, rfl, .inl ⟨_, .inl R.D.hd⟩, _, rfl, _, rfl, p, CLp, dx, _, _, rfl, hob, TP.cl, TP.nP, lpf_P _ _ _ _ _ _, _, _, rfl, rfl, (by show (0 : Int) < per gs m; omega), (by show 0 ≤ sizeLine; decide), fun l hl => ?_⟩
    have S1 := same_new (o := .lst []) hl
    have hl1 : (upd H l (.lst [])) l = some (.lst []) := upd_same
    have R1 := R.same S1
    generalize upd H l (.lst []) = H1 at S1 hl1 R1
    by_cases hm : st % per gs m ∈ ks
    · obtain ⟨j, a, hkj, haj, hla, hval⟩ := R1.D.at_ hm
      exact ⟨_, R1.D.get hval, a, _, rfl, .inl (SqL.of hla), fun q hq => k q _ (S1.free hq) (S1.trans (same_new hq)) upd_same⟩
    · refine ⟨none, .inl ⟨_, Sum.inl _, .inl R1.D.hd, rfl, (kvsOf_none hm).symm⟩, l, _, rfl, .inl (SqL.of hl1), fun q hq => k q _ (S1.free hq) (S1.trans (same_new hq)) ?_⟩
      rw [upd_same, R.D.out _ hm]
      rfl
end
end RS
/-! ### a list against the empty list; len in a comprehension's block -/
namespace L2
open PySem PySem.Spec PyProof.Rows
section
variable {X : Cx}
/-- a list, held against the empty list -/
def rNilB (K : PySem.W.Frag) (f : Bool → Bool) : R2 := fun x y H Q => ∃ a b xs, x = .ref a ∧ y = .ref b ∧ SqL K H a xs ∧ SqL K H b [] ∧ Q (.bl (f xs.isEmpty)) H
theorem op_eqNil (hu : X.A.units + 64 < cLine) : OpR X (compareOp .Eq) (rNilB X.K id) := by
  intro pins s σ H x y v u Q I rx ry h
  obtain ⟨a, b, xs, rfl, rfl, ha, hb, q⟩ := h
  cases xs with
  | nil => exact op_eqD hu pins s σ H _ _ v u Q I rx ry ⟨.list [], .list [], .lst ha .nil, .lst hb .nil, rfl, rfl, q⟩
  | cons z r =>
    cases rx
    cases ry
    obtain ⟨its, r1, h1, _⟩ := I.list ha
    obtain ⟨its2, r2, h2, _⟩ := I.list hb
    cases r2
    have e1 := r1.length
    refine SeqAt.eq_list_lengthsAt h1.isList h2.isList ?_ (by omega) ⟨.bl _, H, I, rfl, q⟩
    rw [List.size_toArray, ← e1]
    rfl
theorem op_neNil (hu : X.A.units + 64 < cLine) : OpR X (compareOp .NotEq) (rNilB X.K not) := by
  intro pins s σ H x y v u Q I rx ry h
  obtain ⟨a, b, xs, rfl, rfl, ha, hb, q⟩ := h
  cases xs with
  | nil => exact op_neD hu pins s σ H _ _ v u Q I rx ry ⟨.list [], .list [], .lst ha .nil, .lst hb .nil, rfl, rfl, q⟩
  | cons z r =>
    cases rx
    cases ry
    obtain ⟨its, r1, h1, _⟩ := I.list ha
    obtain ⟨its2, r2, h2, _⟩ := I.list hb
    cases r2
    have e1 := r1.length
    refine SeqAt.RcNeAt.lists_lengths h1.isList h2.isList ?_ (by omega) X.prog X.w _ _ ⟨.bl _, H, I, rfl, q⟩
    rw [List.size_toArray, ← e1]
    rfl
def rLenK (K : PySem.W.Frag) : List V → Hp → VK → Prop := fun xs H Q => ∃ p ys, xs = [V.ref p] ∧ (SqL K H p ys ∨ SqT K H p ys) ∧ Q (.int (ys.length : Int)) H
theorem pe_lenK {e : Expr} {te : TE} {p pos : Pos} (K : PySem.W.Frag) (hK : X.K = K) (hg : Gl X "len") (hm : X.mg "len" = none) (ha : PE X e te) (hs : starEach [e] X.env = (false, eval e X.env) :: starEach [] X.env := by rfl) : PE X (.Call (.Name "len" p) [e] [] pos) (tCB (rLenK K) (tCons te tNil)) := by
  subst hK
  exact pe_callB (r := rLenK X.K) call_len_seq hg hm (by decide +kernel) (pa_cons ha pa_nil hs) (he := hs)
end
end L2
namespace RS
open PySem L2
section
variable {P : Program} {w : World} {K : PySem.W.Frag} {mg : Str → Option Value} {base : Heap}
/-! ### Loop.lone_from -/
theorem pe_fldK {X : Cx} (K : PySem.W.Frag) (hK : X.K = K) {e : Expr} {ta : TE} {f : Str} {pos : Pos} (he : PE X e ta) (hb : attributeBase e f X.env (eval e X.env) = eval e X.env) : PE X (.Attribute e f pos) (tFld K ta f) := by
  subst hK
  exact pe_fld he hb
def late (L : Option Int) (s : Int) : Bool := match L with
  | none => false
  | some x => decide (x < s)
theorem tstLone {C p o d : Addr} {gs : List Int} {m : Nat} {ks : List Int} {as : List Addr} {f : Int → List Nat} {L : Option Int} {ch : Bool} {H : Hp} {σ : L2.St} {s : Int} {Q : Bool → Hp → Prop} (T : TxtP K mg C) (R : LoopAt C H p o d gs m ks as f L ch) (hi : σ[0]? = some (some (.ref p))) (hs : σ[1]? = some (some (.int s))) (z : Q (ch || late L s) H) :
    tOr (tB (tFld K (tVar 0) "_changed")) (tAnd (tTest (tOp (fun x y H Q => y = .non ∧ Q (.bl (!decide (x = .non))) H) (tFld K (tVar 0) "_lone") (tC .non))) (tTest (tOp (rI0 fun i j => .bl (decide (i < j))) (tFld K (tVar 0) "_lone") (tVar 1)))) σ H Q := by
  dsimp only [tOr, tB, tAnd, tTest, tOp]
  refine rpH T R hi ⟨ch, rfl, ?_⟩
  cases ch with
  | true => exact iteT z
  | false =>
    refine iteF ?_
    refine rpL T R hi ⟨rfl, _, rfl, ?_⟩
    cases L with
    | none => exact iteF z
    | some x =>
      refine iteT ?_
      refine rpL T R hi ⟨_, hs, _, _, rfl, rfl, _, rfl, ?_⟩
      exact z
theorem lone_step {f : Int → List Nat} {P q s : Int} {L : Option Int} (h : IsLone f P q L) (hq : q ≤ s) (hl : late L s = false) : IsLone f P s L := by
  cases L with
  | none => exact fun t ht => h t (by omega)
  | some x =>
    have hx : s ≤ x := by
      have := of_decide_eq_false hl
      omega
    exact ⟨hx, h.2.1, fun t h1 h2 => h.2.2 t (by omega) h2⟩
theorem lone_least {f : Int → List Nat} {P s : Int} {ks : List Int} {v : V} (hP : 0 < P) (kb : ∀ r ∈ ks, 0 ≤ r ∧ r < P) (out : ∀ r, r ∉ ks → f r = []) (h : leastV ((ks.filter fun r => decide ((f r).length = 1)).map fun r => s + (r - s) % P) v) : ∃ L, v = optV L ∧ IsLone f P s L := by
  have hin : ∀ t, s ≤ t → (f (t % P)).length = 1 → t % P ∈ (ks.filter fun r => decide ((f r).length = 1)) ∧ s + (t % P - s) % P ≤ t := fun t ht h1 => by
    refine ⟨List.mem_filter.mpr ⟨Classical.byContradiction fun z => ?_, decide_eq_true h1⟩, ?_⟩
    · rw [out _ z] at h1
      cases h1
    · have e : (t % P - s) % P = (t - s) % P := by rw [Int.emod_sub_emod]
      rw [e]
      have a1 := Int.mul_ediv_add_emod (t - s) P
      have a2 := Int.mul_nonneg (show 0 ≤ P by omega) (Int.ediv_nonneg (show 0 ≤ t - s by omega) (show 0 ≤ P by omega))
      omega
  rcases h with ⟨e, rfl⟩ | ⟨x, hx, hl, rfl⟩
  · refine ⟨none, rfl, fun t ht h1 => ?_⟩
    have := (hin t ht h1).1
    rw [List.map_eq_nil_iff.mp e] at this
    cases this
  · obtain ⟨r, hr, rfl⟩ := List.mem_map.mp hx
    obtain ⟨hr1, hr2⟩ := List.mem_filter.mp hr
    have hrb := kb r hr1
    have em : (s + (r - s) % P) % P = r := by
      rw [Int.add_emod_emod, show s + (r - s) = r by omega, Int.emod_eq_of_lt hrb.1 hrb.2]
    have h0 := Int.emod_nonneg (r - s) (show P ≠ 0 by omega)
    refine ⟨some (s + (r - s) % P), rfl, by omega, by rw [em]; exact of_decide_eq_true hr2, fun t h1 h2 h3 => ?_⟩
    have h4 := hin t h1 h3
    have := hl _ (List.mem_map.mpr ⟨t % P, h4.1, rfl⟩)
    omega
def spLf (C : Addr) : Sp := fun vs H Q _ => ∃ (p o d : Addr) (gs : List Int) (m : Nat) (ks : List Int) (as : List Addr) (f : Int → List Nat) (L : Option Int) (ch : Bool) (s : Int), vs = [.ref p, .int s] ∧ LoopAt C H p o d gs m ks as f L ch ∧ ks.length ≤ 100000 ∧ (ch = false → ∃ q, q ≤ s ∧ IsLone f (per gs m) q L) ∧
  ∀ L' H', Kx p H H' → LoopAt C H' p o d gs m ks as f L' false → IsLone f (per gs m) s L' → Q (optV L') H'
def lfN : List Str := ["self", "slot", "lone", "residue"]
theorem scLf : FnScope lfN ["self", "slot"] (defScope s_Loop_lone_from) := ⟨rfl, rfl, rfl, by decide +kernel, rfl, by decide +kernel, by decide +kernel⟩
theorem ok_lf {f C CLp : Addr} {fd : FuncData} (F : Fun K "lone_from" "Loop.lone_from" s_Loop_lone_from f fd) (T : Txt K mg C) (TP : TxtP K mg CLp) (mMin : mg "min" = none) : FnOk P w K mg base CX0 1 f fd ["self", "slot"] (spLf CLp) := by
  refine F.ok scLf (fun vs H Q E h => ?_) (fun cdv A outer s H vs Q E hr h => ?_)
  · obtain ⟨p, o, d, gs, m, ks, as, f, L, ch, s, rfl, _⟩ := h
    rfl
  · obtain ⟨p, o, d, gs, m, ks, as, fm, L, ch, st, rfl, R, hkl, hv, k⟩ := h
    have hu := hu_of hr
    refine ⟨_, (pss_cons (ps_if (PW.pt (pw_or (pt_val (pe_fld (pv 0) rfl)) (pw_or1 (PW.pt (pw_and (pt_cmpR op_notN (pe_fld (pv 0) rfl) pe_non (nomark _)) (pw_and1 (pt_cmpR op_lt (pe_fld (pv 0) rfl) (pv 1) (nomark _)))))))) (pss_cons (ps_lock (ps_setLc (i := 2) (own := [("residue", 3)]) (g := gName 3) (by rfl) scLf.nd rfl rfl (sw_true rfl rfl rfl (by decide +kernel)) (pi_keys (pe_fld (pv 0) rfl)) (blkOk_by (own := [("residue", 3)]) (N := lfN) (sc := (defScope s_Loop_lone_from)) (by decide +kernel)) (fun _ _ _ _ _ => (pg_name (i := 3) scLf.nd rfl (Or.inl rfl))) (fun _ _ _ _ _ => pts_one (pt_cmpR op_eq (pe_lenK K (by rfl) (by rfl) T.len (pe_dget hu (pe_fldK K (by rfl) (pv 0) rfl) (pv 3) (fun _ _ => rfl))) pe_int (nomark _))) (fun _ _ _ _ _ => (pv 3)))) (pss_cons (ps_fld (pv 0) (pe_callBK (cr_minD rfl) (by rfl) mMin (by decide +kernel) (pa_cons (pe_lc (own := [("residue", 3)]) (g := gName 3) (tt := tYes) rfl scLf.nd (pi_list (pv 2)) (blkOk_by (own := [("residue", 3)]) (N := lfN) (sc := (defScope s_Loop_lone_from)) (by decide +kernel)) (fun _ _ _ _ _ => (pg_name (i := 3) scLf.nd rfl (Or.inl rfl))) (fun _ _ _ _ _ => pts_nil) (fun _ _ _ _ _ => (pe_op op_add (pv 1) (pe_op op_mod (pe_op op_sub (pv 3) (pv 1)) (pe_fldK K (by rfl) (pv 0) rfl))))) pa_nil) (pk_cons pe_non pk_nil)) rfl) (pss_one (ps_fld (pv 0) pe_bl rfl)))) pss_nil) (pss_one (ps_ret (pe_fld (pv 0) rfl)))), ?_⟩
    have hper := per_bd R.okG R.h1 R.h2
    have h1 := R.h1
    refine tstLone TP R rfl rfl ?_
    by_cases hb : (ch || late L st) = true
    case neg =>
      have hb := Bool.eq_false_iff.mpr hb
      rw [hb]
      obtain ⟨hb1, hb2⟩ := Bool.or_eq_false_iff.mp hb
      subst hb1
      obtain ⟨q, hq, hl⟩ := hv rfl
      exact iteF (rpL TP R rfl (k L H (Kx.refl p H) R (lone_step hl hq hb2)))
    rw [hb]
    refine iteT ?_
    -- reckoned anew
    obtain ⟨dx, hob⟩ := R.ob
    have np := R.npd
    refine ⟨d, .dK (kvsOf ks as), R.D.hd, trivial, fun od => ?_⟩
    have hdL : (upd H d (.frz od (.dK (kvsOf ks as)))) d = some (.frz od (.dK (kvsOf ks as))) := upd_same
    have kpL : ∀ b u, b ≠ d → H b = some u → (upd H d (.frz od (.dK (kvsOf ks as)))) b = some u := fun b u nb e => by rw [upd_ne nb]; exact e
    have bkL : ∀ b, b ≠ d → (upd H d (.frz od (.dK (kvsOf ks as)))) b = H b := fun b nb => upd_ne nb
    generalize upd H d (.frz od (.dK (kvsOf ks as))) = HL at hdL kpL bkL
    have hobL := kpL _ _ np.1.symm hob
    refine ⟨_, rfl, p, CLp, dx, _, _, rfl, hobL, TP.cl, TP.nC, lpf_d _ _ _ _ _ _, d, od, rfl, .inl ⟨kvsOf ks as, hdL, fun D hD => lc_it (walk_keys (d := d) (o := od) (kvs := kvsOf ks as)) (fun i H' => Same HL H' ∧ H' D = some (.lst (((ks.take i).filter fun r => decide ((fm r).length = 1)).map V.int))) ⟨same_new hD, upd_same⟩ (fun i H' _ q => q.1 _ _ hdL) (fun i x H4 H5 hi q hy => ?_) (fun H4 q => ?_)⟩⟩
    · obtain ⟨S4, hD4⟩ := q
      obtain ⟨rfl, kk, v, hkk, rfl⟩ := hy
      have hik : i < ks.length := by rw [← kvsOf_len R.D.len]; exact hi
      have hri : ks[i]? = some ks[i] := List.getElem?_eq_getElem hik
      have hai : as[i]? = some (as[i]'(by rw [R.D.len]; exact hik)) := List.getElem?_eq_getElem _
      generalize ks[i] = r at hri
      generalize as[i]'(by rw [R.D.len]; exact hik) = a at hai
      have ekk : (kvsOf ks as)[i]? = some ((Sum.inl r : Key), V.ref a) := by
        unfold kvsOf
        rw [List.getElem?_zipWith, hri, hai]
      rw [ekk] at hkk
      cases hkk
      have hla := R.D.ls i r a hri hai
      have nad : a ≠ d := fun z => R.D.nd (z ▸ List.mem_of_getElem? hai)
      have hla4 := S4 _ _ (kpL _ _ nad hla)
      have hval := kvsOf_at R.D.nk hri hai
      refine ⟨rfl, _, rfl, p, CLp, dx, _, _, rfl, S4 _ _ hobL, TP.cl, TP.nC, lpf_d _ _ _ _ _ _, _, rfl, d, .ref a, rfl, .inl ⟨_, Sum.inl r, .inr ⟨od, S4 _ _ hdL⟩, rfl, hval.symm⟩, a, _, rfl, .inl (SqL.of hla4), rfl, _, rfl, ?_⟩
      rw [List.take_add_one, hri, List.filter_append, List.map_append]
      rw [List.length_map]
      by_cases h1l : (fm r).length = 1
      · refine iteTb (decide_eq_true (by rw [h1l]; rfl)) ?_
        refine ⟨_, rfl, _, hD4, ?_, same_app hD S4, ?_⟩
        · rw [List.length_map]
          have h3 := (List.filter_sublist (p := fun r => decide ((fm r).length = 1)) (l := ks.take i)).length_le
          rw [List.length_take] at h3
          exact small_line (by omega)
        · rw [upd_same]
          show _ = some (HO.lst (_ ++ (List.filter _ [r]).map V.int))
          rw [show List.filter (fun r => decide ((fm r).length = 1)) [r] = [r] by simp [h1l]]
          rfl
      · refine iteFb (decide_eq_false (fun z => h1l (by have := V.int.inj z; omega))) ⟨S4, ?_⟩
        show _ = some (HO.lst (_ ++ (List.filter _ [r]).map V.int))
        rw [show List.filter (fun r => decide ((fm r).length = 1)) [r] = [] by simp [h1l], List.map_nil, List.append_nil]
        exact hD4
    obtain ⟨S4, hD4⟩ := q
    rw [kvsOf_len R.D.len, List.take_length] at hD4
    refine ⟨S4 _ _ hdL, ?_⟩
    have nDd : D ≠ d := fun z => by rw [z, hdL] at hD; cases hD
    have S5 : Same H (upd H4 d (.dK (kvsOf ks as))) := fun b u e => by
      by_cases nb : b = d
      · subst nb
        rw [upd_same, ← R.D.hd, e]
      · rw [upd_ne nb]
        exact S4 _ _ (kpL _ _ nb e)
    have hD5 : (upd H4 d (.dK (kvsOf ks as))) D = some (.lst ((ks.filter fun r => decide ((fm r).length = 1)).map V.int)) := by rw [upd_ne nDd]; exact hD4
    generalize upd H4 d (.dK (kvsOf ks as)) = H5 at S5 hD5
    have R5 := R.same S5
    obtain ⟨dx5, hob5⟩ := R5.ob
    generalize hfl : (ks.filter fun r => decide ((fm r).length = 1)) = ls at hD5
    have hll : ls.length ≤ ks.length := by rw [← hfl]; exact List.filter_sublist.length_le
    refine ⟨_, rfl, D, rfl, ⟨_, SqL.of hD5⟩, fun D2 hD2 => lc_list (a := D) (xs := ls.map V.int) (fun i H' => Same H5 H' ∧ H' D2 = some (.lst (((ls.take i).map fun r => st + (r - st) % per gs m).map V.int))) ⟨same_new hD2, upd_same⟩ (fun i H' _ q => SqL.of (q.1 _ _ hD5)) (fun i x H6 hx q => ?_) (fun H6 q => ?_)⟩
    · obtain ⟨r, hr, rfl⟩ := map_of hx
      have hi := (List.getElem?_eq_some_iff.mp hr).1
      refine ⟨rfl, ?_⟩
      refine yes_t (iteT ?_)
      refine ⟨_, rfl, _, rfl, _, rfl, _, _, rfl, rfl, _, rfl, p, CLp, dx5, _, _, rfl, q.1 _ _ hob5, TP.cl, TP.nP, lpf_P _ _ _ _ _ _, _, _, rfl, rfl, (by show (0 : Int) < per gs m; omega), _, _, rfl, rfl, _, q.2, ?_, same_app hD2 q.1, ?_⟩
      · rw [List.length_map, List.length_map, List.length_take]
        exact small_line (by omega)
      · rw [upd_same, List.take_add_one, hr, List.map_append, List.map_append]
        rfl
    obtain ⟨S6, hD6⟩ := q
    rw [List.length_map, List.take_length] at hD6
    refine ⟨D2, _, rfl, rfl, SqL.of hD6, fun v hv => ?_⟩
    rw [← hfl] at hv
    obtain ⟨L2, rfl, hL2⟩ := lone_least (by omega) R.kb R.D.out hv
    have R6 := R5.same S6
    obtain ⟨dx6, hob6⟩ := R6.ob
    refine ⟨_, rfl, p, CLp, dx6, _, rfl, hob6, TP.cl, TP.nL, (by show 6 < 1000; decide), ?_⟩
    rw [lpf_sL]
    have R7 := R6.obj (dx := dx6) (L2 := L2) (c2 := ch)
    have kx7 : Kx p H (upd H6 p (.ins CLp dx6 (lpf (.int (per gs m)) (.int ((gs.length - m : Nat) : Int)) o d (optV L2) ch))) := (Kx.of (S5.trans S6)).trans Kx.upd
    generalize upd H6 p (.ins CLp dx6 (lpf (.int (per gs m)) (.int ((gs.length - m : Nat) : Int)) o d (optV L2) ch)) = H7 at R7 kx7
    refine rpSet TP R7 rfl fun H8 kx8 R8 => ?_
    exact rpL TP R8 rfl (k L2 H8 (kx7.trans kx8) R8 hL2)
end
end RS
namespace RS
open PySem L2
/-- tuples of two numbers -/
def TupsI (H : Hp) (rs : List Addr) (ps : List (Int × Int)) : Prop := rs.length = ps.length ∧ ∀ (j : Nat) (p : Int × Int), ps[j]? = some p → ∃ r, rs[j]? = some r ∧ H r = some (.tup [.int p.1, .int p.2])
theorem TupsI.kx {H H' : Hp} {rs : List Addr} {ps : List (Int × Int)} (t : TupsI H rs ps) (h : ∀ (r : Addr) (xs : List V), H r = some (.tup xs) → H' r = some (.tup xs)) : TupsI H' rs ps :=
  ⟨t.1, fun j p e => let ⟨r, a, b⟩ := t.2 j p e; ⟨r, a, h _ _ b⟩⟩
theorem TupsI.snoc {H : Hp} {rs : List Addr} {ps : List (Int × Int)} {r : Addr} {a b : Int} (t : TupsI H rs ps) (h : H r = some (.tup [.int a, .int b])) : TupsI H (rs ++ [r]) (ps ++ [(a, b)]) := by
  refine ⟨by rw [List.length_append, List.length_append, t.1]; rfl, fun j p e => ?_⟩
  by_cases hj : j < ps.length
  · rw [List.getElem?_append_left hj] at e
    obtain ⟨r', e1, e2⟩ := t.2 j p e
    exact ⟨r', by rw [List.getElem?_append_left (by rw [t.1]; exact hj)]; exact e1, e2⟩
  · have hl := (List.getElem?_eq_some_iff.mp e).1
    rw [List.length_append, List.length_singleton] at hl
    have ej : j = ps.length := by omega
    subst ej
    rw [List.getElem?_append_right (Nat.le_refl _), Nat.sub_self] at e
    cases e
    exact ⟨r, by rw [← t.1, List.getElem?_append_right (Nat.le_refl _), Nat.sub_self]; rfl, h⟩
theorem TupsI.nil {H : Hp} : TupsI H [] [] := ⟨rfl, fun _ _ e => nomatch e⟩
theorem TupsI.get {H : Hp} {rs : List Addr} {ps : List (Int × Int)} (t : TupsI H rs ps) {i : Nat} {x : V} (h : (rs.map V.ref)[i]? = some x) : ∃ r p, x = .ref r ∧ ps[i]? = some p ∧ H r = some (.tup [.int p.1, .int p.2]) := by
  rw [List.getElem?_map] at h
  cases e : rs[i]? with
  | none => rw [e] at h; cases h
  | some r =>
    rw [e] at h
    cases h
    have hl := (List.getElem?_eq_some_iff.mp e).1
    have hp : ps[i]? = some (ps[i]'(by rw [← t.1]; exact hl)) := List.getElem?_eq_getElem _
    obtain ⟨r', e1, e2⟩ := t.2 i _ hp
    rw [e] at e1
    cases e1
    exact ⟨r, _, rfl, hp, e2⟩
/-! ### lists of pairs as data -/
def winD (ws : List (Int × Int)) : List PyData := ws.map fun p => .tuple [.int p.1, .int p.2]
theorem win_can : ∀ ws : List (Int × Int), PyData.canLayAll0 (winD ws) = true
  | [] => rfl
  | p :: r => by
    show (PyData.canLay0 _ && PyData.canLayAll0 (winD r)) = true
    rw [win_can r]
    rfl
theorem win_depth : ∀ ws : List (Int × Int), PyData.depthAll (winD ws) ≤ 1
  | [] => by decide
  | p :: r => by
    have := win_depth r
    show max 1 (PyData.depthAll (winD r)) ≤ 1
    omega
theorem win_shaped (ws : List (Int × Int)) : SeqAt.shaped (.list (winD ws)) = true := by
  have h1 := win_can ws
  have h2 := win_depth ws
  show (PyData.canLayAll0 (winD ws) && decide (PyData.depthAll (winD ws) + 1 ≤ 64)) = true
  rw [h1, decide_eq_true (by omega)]
  rfl
theorem win_eqv : ∀ ws vs : List (Int × Int), PyData.eqvAll (winD ws) (winD vs) = decide (ws = vs)
  | [], [] => rfl
  | [], _ :: _ => rfl
  | _ :: _, [] => rfl
  | (a, b) :: r, (c, d) :: s => by
    show PyData.eqvAll (.tuple [.int a, .int b] :: winD r) (.tuple [.int c, .int d] :: winD s) = _
    have := win_eqv r s
    simp only [PyData.eqvAll, PyData.eqv, this]
    by_cases h1 : a = c <;> by_cases h2 : b = d <;> by_cases h3 : r = s <;> simp [h1, h2, h3]
theorem win_eqvL (ws vs : List (Int × Int)) : PyData.eqv (.list (winD ws)) (.list (winD vs)) = decide (ws = vs) := win_eqv ws vs
theorem tupsI_dp {K : PySem.W.Frag} {H : Hp} : ∀ {rs : List Addr} {ps : List (Int × Int)}, TupsI H rs ps → DpAll K H (rs.map V.ref) (winD ps)
  | [], [], _ => .nil
  | [], _ :: _, t => nomatch t.1
  | _ :: _, [], t => nomatch t.1
  | r :: rs, p :: ps, t => by
    obtain ⟨r', e1, e2⟩ := t.2 0 p rfl
    cases (Option.some.inj e1 : r = r')
    exact .cons (.tup (SqT.of e2) (.cons (.int _) (.cons (.int _) .nil))) (tupsI_dp ⟨Nat.succ.inj t.1, fun j q e => t.2 (j + 1) q e⟩)
theorem Src.nt {H : Hp} {a r : Addr} {b : Nat} {xs : List V} (S : Src H a b) (h : H r = some (.tup xs)) : r ≠ a := by
  obtain ⟨s0, s1, s2, h1, _⟩ := S.ex
  exact ne_of h h1 (by intro z; cases z)
theorem TupsI.kxs {H H' : Hp} {rs : List Addr} {ps : List (Int × Int)} {a : Addr} {b : Nat} (t : TupsI H rs ps) (S : Src H a b) (kx : Kx a H H') : TupsI H' rs ps := t.kx fun r xs e => kx r _ (S.nt e) e
theorem TupsI.same {H H' : Hp} {rs : List Addr} {ps : List (Int × Int)} (t : TupsI H rs ps) (S : Same H H') : TupsI H' rs ps := t.kx fun r xs e => S r _ e
end RS
namespace RS
open PySem L2
/-! ### who is there, who is served -/
def hereF (T : List (List Int)) (M : List Nat) : Int → List Nat := fun r => M.filter fun c => decide (r ∈ T.getD c [])
theorem hereF_mem {T : List (List Int)} {M : List Nat} {r : Int} {c : Nat} : c ∈ hereF T M r ↔ c ∈ M ∧ r ∈ T.getD c [] := by
  unfold hereF
  rw [List.mem_filter, decide_eq_true_iff]
theorem hereF_len (T : List (List Int)) (M : List Nat) (r : Int) : (hereF T M r).length ≤ M.length := List.length_filter_le ..
theorem hereF_erase {T : List (List Int)} {M : List Nat} (hn : M.Nodup) (c : Nat) : (fun r => (hereF T M r).erase c) = hereF T (M.erase c) := by
  funext r
  unfold hereF
  rw [List.Nodup.erase_eq_filter (List.Pairwise.filter _ hn), List.Nodup.erase_eq_filter hn, List.filter_filter, List.filter_filter]
  exact List.filter_congr fun x _ => Bool.and_comm ..
theorem count_here {T : List (List Int)} (hT : ∀ x ∈ T, x.Nodup) (r : Int) : ∀ M : List Nat, cnt T M r = (hereF T M r).length
  | [] => rfl
  | c :: M => by
    have ih := count_here hT r M
    have hc : (T.getD c []).Nodup := by
      rw [List.getD_eq_getElem?_getD]
      cases e : T[c]? with
      | none => exact List.Pairwise.nil
      | some x => exact hT x (List.mem_of_getElem? e)
    unfold cnt at ih ⊢
    rw [List.map_cons, List.sum_cons, ih]
    unfold hereF
    rw [List.filter_cons]
    by_cases h : r ∈ T.getD c []
    · rw [if_pos (decide_eq_true h), List.Nodup.count hc, if_pos h, List.length_cons]
      omega
    · rw [if_neg (by rw [decide_eq_false h]; decide), List.count_eq_zero.mpr h]
      omega
/-- the services from a slot on, and who is left -/
inductive Serve (T : List (List Int)) (P ℓ : Int) : List Nat → Int → List (Int × Int) → List Nat → Prop where
  | stop {M : List Nat} {s : Int} (h : IsLone (hereF T M) P s none) : Serve T P ℓ M s [] M
  | go {M : List Nat} {s b : Int} {c : Nat} {ps : List (Int × Int)} {R : List Nat} (h : IsLone (hereF T M) P s (some b)) (hc : hereF T M (b % P) = [c]) (r : Serve T P ℓ (M.erase c) (b + ℓ) ps R) : Serve T P ℓ M s ((b, (c : Int)) :: ps) R
theorem lone_one {f : Int → List Nat} {P s : Int} {L L' : Option Int} (h : IsLone f P s L) (h' : IsLone f P s L') : L = L' := by
  cases L with
  | none =>
    cases L' with
    | none => rfl
    | some x => exact absurd h'.2.1 (h x h'.1)
  | some x =>
    cases L' with
    | none => exact absurd h.2.1 (h' x h.1)
    | some y =>
      have h1 : ¬ x < y := fun z => h'.2.2 x h.1 z h.2.1
      have h2 : ¬ y < x := fun z => h.2.2 y h'.1 z h'.2.1
      rw [show x = y by omega]
theorem Serve.one {T : List (List Int)} {P ℓ : Int} {M : List Nat} {s : Int} {ps qs : List (Int × Int)} {R R' : List Nat} (h : Serve T P ℓ M s ps R) : Serve T P ℓ M s qs R' → ps = qs ∧ R = R' := by
  induction h generalizing qs with
  | stop h =>
    intro h'
    cases h' with
    | stop _ => exact ⟨rfl, rfl⟩
    | go z _ _ => exact nomatch lone_one h z
  | go h hc r ih =>
    intro h'
    cases h' with
    | stop z => exact nomatch lone_one h z
    | go z zc zr =>
      cases lone_one h z
      rw [hc] at zc
      cases zc
      obtain ⟨e1, e2⟩ := ih zr
      exact ⟨by rw [e1], e2⟩
/-- earlier slots without a lone client -/
theorem lone_back {f : Int → List Nat} {P q s : Int} {L : Option Int} (hq : q ≤ s) (hn : ∀ t, q ≤ t → t < s → (f (t % P)).length ≠ 1) (h : IsLone f P s L) : IsLone f P q L := by
  cases L with
  | none => exact fun t ht => if z : t < s then hn t ht z else h t (by omega)
  | some x => exact ⟨by have := h.1; omega, h.2.1, fun t h1 h2 => if z : t < s then hn t h1 z else h.2.2 t (by omega) h2⟩
theorem Serve.back {T : List (List Int)} {P ℓ q s : Int} {M R : List Nat} {ps : List (Int × Int)} (hq : q ≤ s) (hn : ∀ t, q ≤ t → t < s → (hereF T M (t % P)).length ≠ 1) (h : Serve T P ℓ M s ps R) : Serve T P ℓ M q ps R := by
  cases h with
  | stop h => exact .stop (lone_back hq hn h)
  | go h hc r => exact .go (lone_back hq hn h) hc r
theorem Serve.perm {T : List (List Int)} {P ℓ : Int} {M : List Nat} {s : Int} {ps : List (Int × Int)} {R : List Nat} (h : Serve T P ℓ M s ps R) : (ps.map (·.2) ++ R.map fun n : Nat => (n : Int)).Perm (M.map fun n : Nat => (n : Int)) := by
  induction h with
  | stop _ => exact .refl _
  | @go M s b c ps R h hc r ih =>
    have hm : c ∈ M := (hereF_mem (T := T) (r := b % P).mp (by rw [hc]; exact List.mem_singleton.mpr rfl)).1
    have h1 := (List.perm_cons_erase hm).map fun n : Nat => (n : Int)
    exact (List.Perm.cons _ ih).trans h1.symm
theorem Serve.sub {T : List (List Int)} {P ℓ : Int} {M : List Nat} {s : Int} {ps : List (Int × Int)} {R : List Nat} (h : Serve T P ℓ M s ps R) : R.Sublist M := by
  induction h with
  | stop _ => exact .refl _
  | go h hc r ih => exact ih.trans List.erase_sublist
/-- a closed set is never served -/
theorem Serve.keeps {T : List (List Int)} (hT : ∀ x ∈ T, x.Nodup) {P ℓ : Int} {G : List Nat} (hG : ClosedS T G) (hGn : G.Nodup) {M : List Nat} {s : Int} {ps : List (Int × Int)} {R : List Nat} (h : Serve T P ℓ M s ps R) : M.Nodup → (∀ c ∈ G, c ∈ M) → ∀ c ∈ G, c ∈ R := by
  induction h with
  | stop _ => exact fun _ h => h
  | @go M s b c ps R h hc r ih =>
    intro hn hs
    refine ih (hn.sublist List.erase_sublist) fun x hx => ?_
    have hxc : x ≠ c := fun e => by
      subst e
      have hr : b % P ∈ T.getD x [] := (hereF_mem (T := T) (M := M) (r := b % P).mp (by rw [hc]; exact List.mem_singleton.mpr rfl)).2
      have h1 := List.all_eq_true.mp (hG x hx) _ hr
      have h2 : 1 < cnt T G (b % P) := of_decide_eq_true h1
      have h3 := cnt_sub (T := T) hGn hs (b % P)
      rw [count_here hT _ M, hc] at h3
      have h3 : cnt T G (b % P) ≤ 1 := h3
      omega
    exact (List.mem_erase_of_ne hxc).mpr (hs x hx)
/-- who is left forms a closed set -/
theorem Serve.closed {T : List (List Int)} (hT : ∀ x ∈ T, x.Nodup) {P ℓ : Int} (hP : ∀ x ∈ T, ∀ r ∈ x, 0 ≤ r ∧ r < P) {M : List Nat} {s : Int} {ps : List (Int × Int)} {R : List Nat} (h : Serve T P ℓ M s ps R) : ClosedS T R := by
  induction h with
  | go _ _ _ ih => exact ih
  | @stop M s h =>
    intro c hc
    refine List.all_eq_true.mpr fun r hr => decide_eq_true ?_
    have hrb : 0 ≤ r ∧ r < P := by
      rw [List.getD_eq_getElem?_getD] at hr
      cases e : T[c]? with
      | none => rw [e] at hr; exact nomatch hr
      | some x => rw [e] at hr; exact hP x (List.mem_of_getElem? e) r hr
    have h0 := Int.emod_nonneg (r - s) (show P ≠ 0 by omega)
    have em : (s + (r - s) % P) % P = r := by rw [Int.add_emod_emod, show s + (r - s) = r by omega, Int.emod_eq_of_lt hrb.1 hrb.2]
    have h1 := h (s + (r - s) % P) (by omega)
    rw [em] at h1
    rw [count_here hT]
    have h2 : 0 < (hereF T M r).length := List.length_pos_of_mem (hereF_mem.mpr ⟨hc, hr⟩)
    omega
theorem Serve.great {T : List (List Int)} (hT : ∀ x ∈ T, x.Nodup) {P ℓ : Int} (hP : ∀ x ∈ T, ∀ r ∈ x, 0 ≤ r ∧ r < P) {n : Nat} {s : Int} {ps : List (Int × Int)} {R ks : List Nat} (h : Serve T P ℓ (List.range n) s ps R) (g : Great T n ks) : R = ks := by
  have hnd : (List.range n).Nodup := List.nodup_range
  have hR : R.Pairwise (· < ·) := List.pairwise_lt_range.sublist h.sub
  have hkn : ks.Nodup := g.pw.imp fun h => by omega
  have hRn : R.Nodup := hR.imp fun h => by omega
  have a1 := h.keeps hT g.cl hkn hnd fun c hc => List.mem_range.mpr (g.lt c hc)
  have a2 := g.all R (h.closed hT hP) hRn fun x hx => List.mem_range.mp (h.sub.subset hx)
  exact List.Perm.eq_of_pairwise (le := fun x y : Nat => x < y) (fun x y _ _ h h' => by omega) hR g.pw ((List.perm_ext_iff_of_nodup hRn hkn).mpr fun x => ⟨a2 x, a1 x⟩)
theorem tab_nodup {gs : List Int} {m : Nat} {bs : List Int} (okG : GapsOk gs) (h1 : 1 ≤ m) (h2 : m ≤ gs.length) : ∀ x ∈ tabOf gs m bs, x.Nodup := fun x hx => by
  obtain ⟨s, _, rfl⟩ := List.mem_map.mp hx
  exact resid_nodup okG h1 h2 s
theorem tab_bd {gs : List Int} {m : Nat} {bs : List Int} (okG : GapsOk gs) (h1 : 1 ≤ m) (h2 : m ≤ gs.length) : ∀ x ∈ tabOf gs m bs, ∀ r ∈ x, 0 ≤ r ∧ r < per gs m := fun x hx r hr => by
  have hp := per_bd okG h1 h2
  obtain ⟨s, _, rfl⟩ := List.mem_map.mp hx
  obtain ⟨y, _, rfl⟩ := List.mem_map.mp hr
  exact ⟨Int.emod_nonneg _ (by omega), Int.emod_lt_of_pos _ (by omega)⟩
/-- one more client enters -/
theorem ent_here {gs : List Int} {m : Nat} {bs : List Int} {i : Nat} {s : Int} (h : bs[i]? = some s) : entF (hereF (tabOf gs m bs) (List.range i)) (resid gs m s) i = hereF (tabOf gs m bs) (List.range (i + 1)) := by
  funext r
  have e : (tabOf gs m bs).getD i [] = resid gs m s := by
    unfold tabOf
    rw [List.getD_eq_getElem?_getD, List.getElem?_map, h]
    rfl
  unfold entF hereF
  rw [List.range_succ, List.filter_append]
  by_cases hr : r ∈ resid gs m s
  · rw [if_pos hr]
    congr 1
    rw [List.filter_cons, if_pos (by rw [e]; exact decide_eq_true hr)]
    rfl
  · rw [if_neg hr]
    have : List.filter (fun c => decide (r ∈ (tabOf gs m bs).getD c [])) [i] = [] := by
      rw [List.filter_cons, if_neg (by rw [e, decide_eq_false hr]; decide)]
      rfl
    rw [this, List.append_nil]
end RS
namespace RS
open PySem L2
/-! ### the mathematics of offsets and gaps -/
def geo (b : Int) : Nat → Int
  | 0 => 0
  | k + 1 => geo b k + b ^ k
theorem geo_eq (b : Int) : ∀ k, b ^ k - 1 = (b - 1) * geo b k
  | 0 => by simp [geo]
  | k + 1 => by
    rw [geo, Int.mul_add, ← geo_eq b k, Int.pow_succ, Int.sub_mul, Int.one_mul, Int.mul_comm b (b ^ k)]
    omega
theorem geo_div {b : Int} (h : 2 ≤ b) (x : Int) (k : Nat) : x * (b ^ k - 1) / (b - 1) = x * geo b k := by
  rw [geo_eq, ← Int.mul_assoc, Int.mul_comm x (b - 1), Int.mul_assoc]
  exact Int.mul_ediv_cancel_left _ (by omega)
theorem off_low {gs : List Int} {tl : Tl} {n : Nat} (h : n ≤ gs.length) : off gs tl n = pre gs n := if_pos h
theorem off_times {gs : List Int} {b : Int} (h2 : 2 ≤ b) {n : Nat} (h : gs.length ≤ n) : off gs (.times b) n = pre gs gs.length + lastG gs * b * geo b (n - gs.length) := by
  by_cases e : n = gs.length
  · subst e
    rw [off_low (Nat.le_refl _), Nat.sub_self]
    simp [geo]
  · have e1 : off gs (.times b) n = pre gs gs.length + lastG gs * b * (b ^ (n - gs.length) - 1) / (b - 1) := if_neg (by omega)
    rw [e1, geo_div h2]
theorem off_rep {gs : List Int} {m : Nat} (h1 : 1 ≤ m) (h2 : m ≤ gs.length) {n : Nat} (h : gs.length ≤ n) : off gs (.rep m) n = pre gs (gs.length - m + (n - gs.length) % m) + (((n - gs.length) / m : Nat) + 1) * per gs m := by
  by_cases e : n = gs.length
  · subst e
    rw [off_low (Nat.le_refl _), Nat.sub_self, Nat.zero_mod, Nat.zero_div]
    unfold per
    simp
    omega
  · exact if_neg (by omega)
theorem gap_low {gs : List Int} {tl : Tl} {n : Nat} (h : n < gs.length) : gapf gs tl n = gs.getD n 0 := if_pos h
theorem gap_times {gs : List Int} {b : Int} {n : Nat} (h : gs.length ≤ n) : gapf gs (.times b) n = lastG gs * b ^ (n - gs.length + 1) := if_neg (by omega)
theorem gap_rep {gs : List Int} {m n : Nat} (h : gs.length ≤ n) : gapf gs (.rep m) n = gs.getD (gs.length - m + (n - gs.length) % m) 0 := if_neg (by omega)
theorem pre_succD {gs : List Int} {k : Nat} (h : k < gs.length) : pre gs (k + 1) = pre gs k + gs.getD k 0 := pre_succ gs (getD_get h)
/-- the next attempt lies one gap later -/
theorem off_succ {gs : List Int} {tl : Tl} (ok : TlOk gs.length tl) {n : Nat} (hf : tl = .fin → n < gs.length) : off gs tl (n + 1) = off gs tl n + gapf gs tl n := by
  by_cases h : n < gs.length
  · rw [off_low (by omega), off_low (by omega), gap_low h, pre_succD h]
  · cases tl with
    | fin => exact absurd (hf rfl) h
    | times b =>
      have h2 := ok.2.1
      rw [off_times h2 (by omega), off_times h2 (by omega), gap_times (by omega), show n + 1 - gs.length = (n - gs.length) + 1 by omega, geo, Int.mul_add, Int.pow_succ, Int.mul_assoc, Int.mul_assoc, Int.mul_comm (b ^ (n - gs.length)) b]
      omega
    | rep m =>
      have h1 : 1 ≤ m := ok.1
      have h2 : m ≤ gs.length := ok.2
      rw [off_rep h1 h2 (by omega), off_rep h1 h2 (by omega), gap_rep (by omega)]
      generalize hd : n - gs.length = d
      rw [show n + 1 - gs.length = d + 1 by omega]
      have hr : d % m < m := Nat.mod_lt _ (by omega)
      have e0 : m * (d / m) + d % m = d := Nat.div_add_mod d m
      by_cases hl : d % m + 1 < m
      · have e1 : (d + 1) % m = d % m + 1 := by
          rw [← e0, show m * (d / m) + d % m + 1 = (d % m + 1) + m * (d / m) by omega, Nat.add_mul_mod_self_left, Nat.mod_eq_of_lt hl, Nat.add_comm (m * (d / m)), Nat.add_mul_mod_self_left, Nat.mod_mod]
        have e2 : (d + 1) / m = d / m := by
          have h3 := Nat.div_add_mod (d + 1) m
          rw [e1] at h3
          have h4 : m * ((d + 1) / m) = m * (d / m) := by omega
          exact Nat.eq_of_mul_eq_mul_left (by omega) h4
        rw [e1, e2, show gs.length - m + (d % m + 1) = (gs.length - m + d % m) + 1 by omega, pre_succD (by omega)]
        omega
      · have e1 : d + 1 = m * (d / m + 1) := by
          rw [Nat.mul_add, Nat.mul_one]
          omega
        rw [e1, Nat.mul_mod_right, Nat.mul_div_cancel_left _ (by omega), show d % m = m - 1 by omega]
        have e3 : pre gs gs.length = pre gs (gs.length - m + (m - 1)) + gs.getD (gs.length - m + (m - 1)) 0 := by
          rw [← pre_succD (by omega), show gs.length - m + (m - 1) + 1 = gs.length by omega]
        have e4 : per gs m = pre gs gs.length - pre gs (gs.length - m) := rfl
        have e5 : ((d / m + 1 : Nat) + 1 : Int) * per gs m = ((d / m : Nat) + 1 : Int) * per gs m + per gs m := by
          rw [Int.natCast_add, Int.add_mul, Int.natCast_one, Int.one_mul]
        rw [e5, Nat.add_zero]
        omega
theorem gap_grow {gs : List Int} {b : Int} (h0 : 0 < gs.length) {n : Nat} (h : gs.length ≤ n) : gapf gs (.times b) n = gapf gs (.times b) (n - 1) * b := by
  rw [gap_times h]
  by_cases e : n = gs.length
  · subst e
    rw [gap_low (by omega), Nat.sub_self]
    show lastG gs * b ^ 1 = lastG gs * b
    rw [Int.pow_succ, Int.pow_zero, Int.one_mul]
  · rw [gap_times (by omega), show n - gs.length + 1 = (n - 1 - gs.length + 1) + 1 by omega, Int.pow_succ, Int.mul_assoc]
theorem off_later {gs : List Int} {m : Nat} (h1 : 1 ≤ m) (h2 : m ≤ gs.length) (a t : Nat) : off gs (.rep m) (a + gs.length + m * t) = off gs (.rep m) (a + gs.length) + (t : Int) * per gs m := by
  rw [off_rep h1 h2 (by omega), off_rep h1 h2 (by omega), show a + gs.length + m * t - gs.length = a + m * t by omega, show a + gs.length - gs.length = a by omega, Nat.add_mul_mod_self_left, Nat.add_mul_div_left _ _ (by omega), Int.natCast_add]
  rw [Int.add_mul, Int.add_mul, Int.add_mul]
  omega
theorem sum_take_drop (gs : List Int) (k : Nat) : (gs.take k).sum + (gs.drop k).sum = gs.sum := by
  rw [← List.sum_append, List.take_append_drop]
theorem per_sum {gs : List Int} (m : Nat) : (gs.drop (gs.length - m)).sum = per gs m := by
  have h := sum_take_drop gs (gs.length - m)
  have e : pre gs gs.length = gs.sum := by unfold pre; rw [List.take_length]
  unfold per
  rw [e]
  unfold pre
  omega
end RS
namespace RS
open PySem L2
section
variable {P : Program} {w : World} {K : PySem.W.Frag} {mg : Str → Option Value} {base : Heap}
/-! ### check_slot, check_bound, _check_repeated -/
def spCkSA : Sp := fun vs H Q _ => ∃ i : Int, vs = [.int i] ∧ Q .non H
theorem scCkSA : FnScope ["slot"] ["slot"] (defScope s_check_slot) := ⟨rfl, rfl, rfl, by decide +kernel, rfl, by decide +kernel, by decide +kernel⟩
theorem ok_ckSA {f C fI : Addr} {fd fdI : FuncData} (F : Fun K "check_slot" "check_slot" s_check_slot f fd) (T : Txt K mg C) (GI : FnOk P w K mg base CX0 1 fI fdI ["value"] spIsInt) (bI : Binds K fdI ["value"] []) (mI : mg "is_integer" = some (.ref fI)) (kI : PySem.W.keepIn K (.ref fI) = true) : FnOk P w K mg base CX0 2 f fd ["slot"] spCkSA := by
  refine F.ok scCkSA (fun vs H Q E h => ?_) (fun cdv A outer s H vs Q E hr h => ?_)
  · obtain ⟨i, rfl, _⟩ := h
    rfl
  · obtain ⟨i, rfl, k⟩ := h
    refine ⟨_, (pss_one (ps_if (pt_not (pt_val (pe_call GI hr rfl mI kI bI .nil pass0 (pa_cons (pv 0) pa_nil)))) (pss_one ps_never) pss_nil)), ?_⟩
    exact ⟨_, rfl, i, rfl, true, rfl, iteF k⟩
def spCb : Sp := fun vs H Q _ => ∃ (s : Str) (v lo : Int), vs = [.str s, .int v, .int lo, .non] ∧ lo ≤ v ∧ Q .non H
def cbN : List Str := ["part", "value", "low", "high"]
theorem scCb : FnScope cbN cbN (defScope s_check_bound) := ⟨rfl, rfl, rfl, by decide +kernel, rfl, by decide +kernel, by decide +kernel⟩
theorem ok_cb {f C fI : Addr} {fd fdI : FuncData} (F : Fun K "check_bound" "check_bound" s_check_bound f fd) (T : Txt K mg C) (GI : FnOk P w K mg base CX0 1 fI fdI ["value"] spIsInt) (bI : Binds K fdI ["value"] []) (mI : mg "is_integer" = some (.ref fI)) (kI : PySem.W.keepIn K (.ref fI) = true) : FnOk P w K mg base CX0 2 f fd ["part", "value", "low", "high"] spCb := by
  refine F.ok scCb (fun vs H Q E h => ?_) (fun cdv A outer s H vs Q E hr h => ?_)
  · obtain ⟨z, v, lo, rfl, _⟩ := h
    rfl
  · obtain ⟨z, v, lo, rfl, hlo, k⟩ := h
    refine ⟨_, (pss_cons (ps_if (pt_not (pt_val (pe_call GI hr rfl mI kI bI .nil pass0 (pa_cons (pv 1) pa_nil)))) (pss_one ps_never) pss_nil) (pss_one (ps_if (PW.pt (pw_or (PW.pt (pw_and (pt_cmpR op_notN (pv 2) pe_non (nomark _)) (pw_and1 (pt_cmpR op_lt (pv 1) (pv 2) (nomark _))))) (pw_or1 (PW.pt (pw_and (pt_cmpR op_notN (pv 3) pe_non (nomark _)) (pw_and1 (pt_cmpR op_gt (pv 1) (pv 3) (nomark _)))))))) (pss_one ps_never) pss_nil))), ?_⟩
    refine ⟨_, rfl, v, rfl, true, rfl, iteF ?_⟩
    refine ⟨_, rfl, rfl, _, rfl, iteTb rfl ?_⟩
    refine ⟨_, rfl, _, rfl, _, _, rfl, rfl, _, rfl, iteFb (decide_eq_false (by omega)) ?_⟩
    exact ⟨_, rfl, rfl, _, rfl, iteFb rfl (iteF k)⟩
def spCkP (C : Addr) : Sp := fun vs H Q _ => ∃ (p g t o b : Addr) (gs : List Int) (m : Nat) (bs : List Int) (s : Int), vs = [.ref p, .ref b, .int s] ∧ RuleAt C H p g t o gs (.rep m) ∧ H b = some (.lst (bs.map V.int)) ∧ 1 ≤ bs.length ∧ (∀ y ∈ bs, y + pre gs (gs.length - m) ≤ s) ∧ ∀ H', Same H H' → Q .non H'
theorem scCkP : FnScope ["rule", "starts", "slot"] ["rule", "starts", "slot"] (defScope s_check_repeated) := ⟨rfl, rfl, rfl, by decide +kernel, rfl, by decide +kernel, by decide +kernel⟩
theorem ok_ckP {f C fS fO fF : Addr} {fd fdS fdO fdF : FuncData} (F : Fun K "_check_repeated" "_check_repeated" s_check_repeated f fd) (T : Txt K mg C) (GS : FnOk P w K mg base CX0 2 fS fdS ["slot"] spCkSA) (bS : Binds K fdS ["slot"] []) (mS : mg "check_slot" = some (.ref fS)) (kS : PySem.W.keepIn K (.ref fS) = true)
    (GO : FnOk P w K mg base CX0 4 fO fdO ["self", "attempt"] (spOff C)) (bO : Binds K fdO ["self", "attempt"] []) (mO : Meth K C "offset" fO) (GF : FnOk P w K mg base CX0 1 fF fdF ["self"] (spFR C)) (bF : Binds K fdF ["self"] []) (mF : Meth K C "first_repeating" fF) : FnOk P w K mg base CX0 5 f fd ["rule", "starts", "slot"] (spCkP C) := by
  refine F.ok scCkP (fun vs H Q E h => ?_) (fun cdv A outer s H vs Q E hr h => ?_)
  · obtain ⟨p, g, t, o, b, gs, m, bs, s, rfl, _⟩ := h
    rfl
  · obtain ⟨p, g, t, o, b, gs, m, bs, st, rfl, R, hb, hn, hs, k⟩ := h
    have hr1 := hr.mono (show 1 ≤ 4 by decide)
    have hr2 := hr.mono (show 2 ≤ 4 by decide)
    refine ⟨_, (pss_cons (ps_expr (pe_call GS hr2 rfl mS kS bS .nil pass0 (pa_cons (pv 2) pa_nil))) (pss_one (ps_if (pt_cmpR op_lt (pv 2) (pe_op op_add (pe_callB (cr_max rfl) (by rfl) T.max (by decide +kernel) (pa_cons (pv 1) pa_nil)) (pe_meth (pv 0) T.cl mO GO hr bO .nil pass0 (pa_cons (pe_meth0 (pv 0) T.cl mF GF hr1 bF .nil pass0) pa_nil))) (nomark _)) (pss_one ps_never) pss_nil))), ?_⟩
    obtain ⟨dx, hob⟩ := R.ob
    refine ⟨_, rfl, st, rfl, ?_⟩
    refine ⟨_, rfl, _, rfl, b, bs, rfl, SqL.of hb, by omega, fun mx hmx hle => ?_⟩
    refine ⟨_, rfl, p, dx, _, rfl, hob, flds_no _ _ _ (by decide +kernel) (by decide +kernel) (by decide +kernel), _, rfl, p, dx, _, rfl, hob, flds_no _ _ _ (by decide +kernel) (by decide +kernel) (by decide +kernel), p, g, t, o, gs, m, rfl, R, ?_⟩
    refine ⟨p, g, t, o, gs, .rep m, gs.length - m, rfl, R, True.intro, fun H' S => ?_⟩
    have e : off gs (.rep m) (gs.length - m) = pre gs (gs.length - m) := off_low (by omega)
    have := hs mx hmx
    exact ⟨_, _, rfl, rfl, _, _, rfl, rfl, _, rfl, iteFb (decide_eq_false (by rw [e]; omega)) (k H' S)⟩
/-! ### _filled_loop -/
def spFl (C CLp : Addr) : Sp := fun vs H Q _ => ∃ (r g t o' b : Addr) (gs : List Int) (m : Nat) (bs : List Int), vs = [.ref r, .ref b] ∧ RuleAt C H r g t o' gs (.rep m) ∧ H b = some (.lst (bs.map V.int)) ∧ 1 ≤ bs.length ∧ bs.length ≤ 40 ∧
  ∀ (p o d : Addr) (ks : List Int) (as : List Addr) (H' : Hp), Same H H' → H p = none → H d = none → (∀ a ∈ as, H a = none) → ks.length ≤ 1000 → LoopAt CLp H' p o d gs m ks as (hereF (tabOf gs m bs) (List.range bs.length)) none true → Q (.ref p) H'
def flN : List Str := ["rule", "starts", "loop", "client", "start"]
theorem scFl : FnScope flN ["rule", "starts"] (defScope s_filled_loop) := ⟨rfl, rfl, rfl, by decide +kernel, rfl, by decide +kernel, by decide +kernel⟩
theorem ok_fl {f C CLp fI fE : Addr} {fd fdI fdE : FuncData} (F : Fun K "_filled_loop" "_filled_loop" s_filled_loop f fd) (T : Txt K mg C) (TP : TxtP K mg CLp) (MP : Mk K CLp fI) (GI : FnOk P w K mg base CX0 4 fI fdI ["self", "rule"] (spLp C CLp)) (bI : Binds K fdI ["self", "rule"] [])
    (GE : FnOk P w K mg base CX0 1 fE fdE ["self", "client", "start"] (spEn CLp)) (bE : Binds K fdE ["self", "client", "start"] []) (mE : Meth K CLp "enter" fE) : FnOk P w K mg base CX0 6 f fd ["rule", "starts"] (spFl C CLp) := by
  refine F.ok scFl (fun vs H Q E h => ?_) (fun cdv A outer s H vs Q E hr h => ?_)
  · obtain ⟨r, g, t, o', b, gs, m, bs, rfl, _⟩ := h
    rfl
  · obtain ⟨r, g, t, o', b, gs, m, bs, rfl, R, hb, hn, h40, k⟩ := h
    have hr1 := hr.mono (show 1 ≤ 5 by decide)
    refine ⟨_, (pss_cons (ps_set (i := 2) scFl.nd rfl (Or.inl rfl) (pe_make MP GI hr rfl TP.mgP bI .nil pass0 (pa_cons (pv 0) pa_nil))) (pss_cons (ps_for PassesOwn.never rfl (pi_enum (by rfl) T.enum (pa_cons (pv 1) pa_nil)) (pg_tup rfl (pgs_cons (pg_name (i := 3) scFl.nd rfl (Or.inl rfl)) (pgs_cons (pg_name (i := 4) scFl.nd rfl (Or.inl rfl)) pgs_nil))) (pss_one (ps_expr (pe_meth (pv 2) TP.cl mE GE hr1 bE .nil pass0 (pa_cons (pv 3) (pa_cons (pv 4) pa_nil)))))) (pss_one (ps_ret (pv 2))))), ?_⟩
    refine ⟨_, rfl, fun p dx hp hdx _ => ?_⟩
    have Sm : Same H (upd (upd H dx (.own p)) p (.ins CLp dx [])) := made_same hp hdx
    refine ⟨p, dx, r, g, t, o', gs, m, rfl, upd_same, R.mono Sm, fun o d H1 ho hd kp R1 => ⟨rfl, ?_⟩⟩
    have S1 : Same H H1 := fun c u e => kp c u (Sm _ _ e) (ne_of_none e hp)
    have hdH : H d = none := Sm.free hd
    have fr : ∀ a, H1 a = none → H a = none := fun a h => S1.free h
    refine ⟨_, rfl, b, _, rfl, SqL.of (S1 _ _ hb), for_it (walk_enum (a := b) (xs := bs.map V.int)) (fun i σ H' => ∃ v3 v4 ks as, σ = [some (.ref r), some (.ref b), some (.ref p), v3, v4] ∧ Same H H' ∧ (∀ a ∈ as, H a = none) ∧ ks.length ≤ 20 * i ∧ LoopAt CLp H' p o d gs m ks as (hereF (tabOf gs m bs) (List.range i)) none (decide (0 < i))) ⟨none, none, [], [], rfl, S1, (fun a h => nomatch h), Nat.le_refl _, R1⟩ (fun i σ H' _ z => ?_) ?_ ?_⟩
    · obtain ⟨_, _, _, _, _, S, _⟩ := z
      exact SqL.of (S _ _ hb)
    · rintro i x σ H2 H3 hi ⟨v3, v4, ks, as, rfl, S, hna, hkl, R2⟩ ⟨T2, x1, y1, rfl, hT, rfl, hx1, hy1⟩
      obtain rfl := Option.some.inj hx1
      obtain ⟨y, hy, rfl⟩ := map_of hy1
      have hil := (List.getElem?_eq_some_iff.mp hy).1
      have sT := same_new (o := .tup [V.int (i : Nat), .int y]) hT
      have R3 := R2.same sT
      have S3 := S.trans sT
      have hT3 : (upd H2 T2 (.tup [V.int (i : Nat), .int y])) T2 = some (.tup [V.int (i : Nat), .int y]) := upd_same
      generalize upd H2 T2 (.tup [V.int (i : Nat), .int y]) = H3 at R3 S3 hT3
      refine ⟨T2, _, rfl, SqT.of hT3, rfl, _, _, rfl, _, _, rfl, rfl, ?_⟩
      obtain ⟨dx3, hob3⟩ := R3.ob
      refine ⟨_, rfl, p, dx3, _, rfl, hob3, lpf_no _ _ _ _ _ _ (by decide +kernel) (by decide +kernel) (by decide +kernel) (by decide +kernel) (by decide +kernel) (by decide +kernel), _, rfl, _, rfl, p, o, d, gs, m, ks, as, _, none, _, i, y, rfl, R3, fun q => Nat.le_trans (hereF_len _ _ _) (by rw [List.length_range]; omega), by omega, fun ks' as' H4 G hkl' R4 => ?_⟩
      rw [ent_here hy] at R4
      refine ⟨_, _, ks', as', rfl, fun c u e => G.fp c u (S3 _ _ e) (ne_of_none e hp) (ne_of_none e hdH) (fun z => by have := hna c z; rw [e] at this; cases this), fun a ha => ?_, by omega, by rw [decide_eq_true (show 0 < i + 1 by omega)]; exact R4⟩
      rcases G.nw a ha with z | z
      · exact hna a z
      · exact S3.free z
    · rintro σ H2 ⟨v3, v4, ks, as, rfl, S, hna, hkl, R2⟩
      rw [List.length_map] at hkl R2
      rw [decide_eq_true (show 0 < bs.length by omega)] at R2
      exact ⟨_, rfl, k p o d ks as H2 S hp hdH hna (by omega) R2⟩
end
end RS
namespace RS
open PySem L2
section
variable {P : Program} {w : World} {K : PySem.W.Frag} {mg : Str → Option Value} {base : Heap}
/-! ### next_service -/
def NsV (f : Int → List Nat) (P : Int) (H : Hp) : Option Int → V → Prop
  | none, v => v = .non
  | some b, v => ∃ (q : Addr) (c : Nat), v = .ref q ∧ H q = some (.tup [.int b, .int (c : Int)]) ∧ f (b % P) = [c]
/-- what the two functions are handed -/
structure SvAt (C : Addr) (H : Hp) (r g t o' b : Addr) (gs : List Int) (m : Nat) (bs : List Int) (s : Int) : Prop where
  R : RuleAt C H r g t o' gs (.rep m)
  hb : H b = some (.lst (bs.map V.int))
  h1 : 1 ≤ bs.length
  h40 : bs.length ≤ 40
  hs : ∀ y ∈ bs, y + pre gs (gs.length - m) ≤ s
theorem SvAt.same {C : Addr} {H H' : Hp} {r g t o' b : Addr} {gs : List Int} {m : Nat} {bs : List Int} {s : Int} (A : SvAt C H r g t o' b gs m bs s) (S : Same H H') : SvAt C H' r g t o' b gs m bs s := ⟨A.R.mono S, S _ _ A.hb, A.h1, A.h40, A.hs⟩
theorem one_of_len {l : List Nat} (h : l.length = 1) : ∃ c, l = [c] := by
  cases l with
  | nil => cases h
  | cons c r =>
    cases r with
    | nil => exact ⟨c, rfl⟩
    | cons _ _ => cases h
/-! ### service_order -/
def spSo (C : Addr) : Sp := fun vs H Q _ => ∃ (r g t o' b : Addr) (gs : List Int) (m : Nat) (bs : List Int) (s ℓ : Int), vs = [.ref r, .ref b, .int s, .int ℓ] ∧ SvAt C H r g t o' b gs m bs s ∧ 1 ≤ ℓ ∧
  ∀ ps R q rs H', Serve (tabOf gs m bs) (per gs m) ℓ (List.range bs.length) s ps R → H q = none → (∀ x ∈ rs, H x = none) → Same H H' → H' q = some (.lst (rs.map V.ref)) → TupsI H' rs ps → Q (.ref q) H'
def soN : List Str := ["rule", "starts", "slot", "length", "loop", "services", "begin", "client"]
theorem scSo : FnScope soN ["rule", "starts", "slot", "length"] (defScope s_service_order) := ⟨rfl, rfl, rfl, by decide +kernel, rfl, by decide +kernel, by decide +kernel⟩
theorem ok_so {f C CLp fC fK fB fFl fL fI fV : Addr} {fd fdC fdK fdB fdFl fdL fdI fdV : FuncData} (F : Fun K "service_order" "service_order" s_service_order f fd) (T : Txt K mg C) (TP : TxtP K mg CLp)
    (GC : FnOk P w K mg base CX0 3 fC fdC ["rule", "starts"] (spCkL C)) (bC : Binds K fdC ["rule", "starts"] []) (mC : mg "_check_clients" = some (.ref fC)) (kC : PySem.W.keepIn K (.ref fC) = true)
    (GK : FnOk P w K mg base CX0 5 fK fdK ["rule", "starts", "slot"] (spCkP C)) (bK : Binds K fdK ["rule", "starts", "slot"] []) (mK : mg "_check_repeated" = some (.ref fK)) (kK : PySem.W.keepIn K (.ref fK) = true)
    (GB : FnOk P w K mg base CX0 2 fB fdB ["part", "value", "low", "high"] spCb) (bB : Binds K fdB ["part", "value", "low", "high"] []) (mB : mg "check_bound" = some (.ref fB)) (kB : PySem.W.keepIn K (.ref fB) = true)
    (GFl : FnOk P w K mg base CX0 6 fFl fdFl ["rule", "starts"] (spFl C CLp)) (bFl : Binds K fdFl ["rule", "starts"] []) (mFl : mg "_filled_loop" = some (.ref fFl)) (kFl : PySem.W.keepIn K (.ref fFl) = true)
    (GL : FnOk P w K mg base CX0 1 fL fdL ["self", "slot"] (spLf CLp)) (bL : Binds K fdL ["self", "slot"] []) (mL : Meth K CLp "lone_from" fL) (GI : FnOk P w K mg base CX0 1 fI fdI ["self", "slot"] (spCi CLp)) (bI : Binds K fdI ["self", "slot"] []) (mI : Meth K CLp "clients_in" fI)
    (GV : FnOk P w K mg base CX0 1 fV fdV ["self", "client"] (spLv CLp)) (bV : Binds K fdV ["self", "client"] []) (mV : Meth K CLp "leave" fV) :
    FnOk P w K mg base CX0 7 f fd ["rule", "starts", "slot", "length"] (spSo C) := by
  refine F.ok scSo (fun vs H Q E h => ?_) (fun cdv A outer s H vs Q E hr h => ?_)
  · obtain ⟨r, g, t, o', b, gs, m, bs, s, ℓ, rfl, _⟩ := h
    rfl
  · obtain ⟨r, g, t, o', b, gs, m, bs, st, ℓ, rfl, A, hℓ, k⟩ := h
    have hr1 := hr.mono (show 1 ≤ 6 by decide)
    have hr2 := hr.mono (show 2 ≤ 6 by decide)
    have hr3 := hr.mono (show 3 ≤ 6 by decide)
    have hr5 := hr.mono (show 5 ≤ 6 by decide)
    refine ⟨_, (pss_cons (ps_expr (pe_call GC hr3 rfl mC kC bC .nil pass0 (pa_cons (pv 0) (pa_cons (pv 1) pa_nil)))) (pss_cons (ps_expr (pe_call GK hr5 rfl mK kK bK .nil pass0 (pa_cons (pv 0) (pa_cons (pv 1) (pa_cons (pv 2) pa_nil))))) (pss_cons (ps_expr (pe_call GB hr2 rfl mB kB bB .nil pass0 (pa_cons pe_str (pa_cons (pv 3) (pa_cons pe_int (pa_cons pe_non pa_nil)))))) (pss_cons (ps_set (i := 4) scSo.nd rfl (Or.inl rfl) (pe_call GFl hr rfl mFl kFl bFl .nil pass0 (pa_cons (pv 0) (pa_cons (pv 1) pa_nil)))) (pss_cons (ps_set (i := 5) scSo.nd rfl (Or.inl rfl) (pe_lst pa_nil)) (pss_cons (ps_set (i := 6) scSo.nd rfl (Or.inl rfl) (pe_meth (pv 4) TP.cl mL GL hr1 bL .nil pass0 (pa_cons (pv 2) pa_nil))) (pss_cons (ps_while PassesOwn.never (pt_cmpR op_notN (pv 6) pe_non (nomark _)) (pss_cons (ps_set (i := 7) scSo.nd rfl (Or.inl rfl) (pe_ix ix_list (pe_meth (pv 4) TP.cl mI GI hr1 bI .nil pass0 (pa_cons (pv 6) pa_nil)) pe_int (fun _ _ => rfl))) (pss_cons (ps_expr (pe_bm PySem.F.plainAttrs_list PySem.F.slot_list_append PySem.F.type_list_append mt_append (pv 5) (pa_cons (pe_tup (pa_cons (pv 6) (pa_cons (pv 7) pa_nil))) pa_nil))) (pss_cons (ps_expr (pe_meth (pv 4) TP.cl mV GV hr1 bV .nil pass0 (pa_cons (pv 7) pa_nil))) (pss_one (ps_set (i := 6) scSo.nd rfl (Or.inl rfl) (pe_meth (pv 4) TP.cl mL GL hr1 bL .nil pass0 (pa_cons (pe_op op_add (pv 6) (pv 3)) pa_nil)))))))) (pss_one (ps_ret (pv 5)))))))))), ?_⟩
    refine ⟨_, rfl, _, rfl, r, g, t, o', b, gs, m, bs, rfl, A.R, A.hb, A.h1, A.h40, fun H1 S1 => ?_⟩
    have A1 := A.same S1
    refine ⟨_, rfl, _, rfl, _, rfl, r, g, t, o', b, gs, m, bs, st, rfl, A1.R, A1.hb, A1.h1, A1.hs, fun H2 S2 => ?_⟩
    have A2 := A1.same S2
    refine ⟨_, rfl, _, ℓ, 1, rfl, hℓ, ?_⟩
    refine ⟨_, rfl, _, rfl, r, g, t, o', b, gs, m, bs, rfl, A2.R, A2.hb, A2.h1, A2.h40, fun p o d ks as H3 S3 hp hd has hkl R3 => ?_⟩
    have hpH : H p = none := (S1.trans S2).free hp
    have hdH : H d = none := (S1.trans S2).free hd
    have hasH : ∀ a ∈ as, H a = none := fun a ha => (S1.trans S2).free (has a ha)
    refine ⟨(by show 0 ≤ sizeLine; decide), fun q hq => ?_⟩
    have S4 := same_new (o := .lst []) hq
    have R4 := R3.same S4
    have hq4 : (upd H3 q (.lst [])) q = some (.lst []) := upd_same
    have S04 : Same H (upd H3 q (.lst [])) := ((S1.trans S2).trans S3).trans S4
    have hqH : H q = none := ((S1.trans S2).trans S3).free hq
    have nqp : q ≠ p := by
      obtain ⟨dx, e⟩ := R3.ob
      exact (ne_of_none e hq).symm
    have nqd : q ≠ d := (ne_of_none R3.D.hd hq).symm
    have nqa : q ∉ as := fun z => by
      obtain ⟨y, e⟩ := R3.D.some_ z
      rw [hq] at e
      cases e
    generalize upd H3 q (.lst []) = H4 at R4 hq4 S04
    obtain ⟨dx4, hob4⟩ := R4.ob
    refine ⟨_, rfl, p, dx4, _, rfl, hob4, lpf_no _ _ _ _ _ _ (by decide +kernel) (by decide +kernel) (by decide +kernel) (by decide +kernel) (by decide +kernel) (by decide +kernel), _, rfl, p, o, d, gs, m, ks, as, _, none, true, st, rfl, R4, by omega, (fun z => nomatch z), fun L H5 kx5 R5 hL => ?_⟩
    have S05 : Same H H5 := fun c u e => kx5 c u (ne_of_none e hpH) (S04 _ _ e)
    have hq5 := kx5 _ _ nqp hq4
    clear S04 hq4 R4 hob4 kx5 R3 S3 S4 hq A1 A2 S1 S2 hp hd has
    refine ⟨fun mm σ H' => ∃ (M : List Nat) (s2 : Int) (L : Option Int) (ps : List (Int × Int)) (rs : List Addr) (v7 : Option V), mm = M.length ∧ σ = [some (.ref r), some (.ref b), some (.int st), some (.int ℓ), some (.ref p), some (.ref q), some (optV L), v7] ∧ Same H H' ∧ LoopAt CLp H' p o d gs m ks as (hereF (tabOf gs m bs) M) L false ∧ IsLone (hereF (tabOf gs m bs) M) (per gs m) s2 L ∧ H' q = some (.lst (rs.map V.ref)) ∧ TupsI H' rs ps ∧ (∀ x ∈ rs, H x = none) ∧ M.Nodup ∧ M.length + rs.length ≤ 40 ∧
      (∀ qs R, Serve (tabOf gs m bs) (per gs m) ℓ M s2 qs R → Serve (tabOf gs m bs) (per gs m) ℓ (List.range bs.length) st (ps ++ qs) R), ⟨_, List.range bs.length, st, L, [], [], none, rfl, rfl, S05, R5, hL, hq5, TupsI.nil, (fun x h => nomatch h), List.nodup_range, by rw [List.length_range]; exact A.h40, fun qs R h => h⟩, ?_⟩
    clear S05 R5 hL hq5 L
    rintro mm σ H6 ⟨M, s2, L, ps, rs, v7, rfl, rfl, S6, R6, hL, hq6, tp, hrs, hMn, hM40, hSv⟩
    refine ⟨_, rfl, rfl, _, rfl, ?_⟩
    cases L with
    | none =>
      refine iteFb rfl ?_
      have := hSv [] M (.stop hL)
      rw [List.append_nil] at this
      exact ⟨_, rfl, k ps M q rs H6 this hqH hrs S6 hq6 tp⟩
    | some x =>
      refine iteTb rfl ?_
      obtain ⟨c, hc⟩ := one_of_len hL.2.1
      have hcM : c ∈ M := (hereF_mem (T := tabOf gs m bs) (r := x % per gs m).mp (by rw [hc]; exact List.mem_singleton.mpr rfl)).1
      have hlen := List.length_erase_of_mem hcM
      have hpos := List.length_pos_of_mem hcM
      refine ⟨fun σ H' => ∃ (s2 : Int) (L : Option Int) (ps : List (Int × Int)) (rs : List Addr) (v7 : Option V), σ = [some (.ref r), some (.ref b), some (.int st), some (.int ℓ), some (.ref p), some (.ref q), some (optV L), v7] ∧ Same H H' ∧ LoopAt CLp H' p o d gs m ks as (hereF (tabOf gs m bs) (M.erase c)) L false ∧ IsLone (hereF (tabOf gs m bs) (M.erase c)) (per gs m) s2 L ∧ H' q = some (.lst (rs.map V.ref)) ∧ TupsI H' rs ps ∧ (∀ x ∈ rs, H x = none) ∧ (M.erase c).Nodup ∧ (M.erase c).length + rs.length ≤ 40 ∧
        (∀ qs R, Serve (tabOf gs m bs) (per gs m) ℓ (M.erase c) s2 qs R → Serve (tabOf gs m bs) (per gs m) ℓ (List.range bs.length) st (ps ++ qs) R), ?_, ?_⟩
      · rintro σ' H' ⟨s2', L', ps', rs', v7', rfl, z⟩
        exact ⟨(M.erase c).length, by omega, M.erase c, s2', L', ps', rs', v7', rfl, rfl, z⟩
      · obtain ⟨dx6, hob6⟩ := R6.ob
        refine ⟨_, rfl, p, dx6, _, rfl, hob6, lpf_no _ _ _ _ _ _ (by decide +kernel) (by decide +kernel) (by decide +kernel) (by decide +kernel) (by decide +kernel) (by decide +kernel), _, rfl, p, o, d, gs, m, ks, as, _, some x, false, x, rfl, R6, fun l H7 hl S7 hl7 => ?_⟩
        rw [hc] at hl7
        refine ⟨l, _, _, .int (c : Int), rfl, rfl, SqL.of hl7, atI_nat (j := 0) rfl, ?_⟩
        have hq7 := S7 _ _ hq6
        refine ⟨_, rfl, .inl ⟨rfl, _, SqL.of hq7⟩, _, rfl, _, rfl, (by show 2 ≤ sizeLine; decide), fun u hu => ?_⟩
        have S8 := same_new (o := .tup [optV (some x), .int (c : Int)]) hu
        have hu8 : (upd H7 u (.tup [optV (some x), .int (c : Int)])) u = some (.tup [.int x, .int (c : Int)]) := upd_same
        have hq8 := S8 _ _ hq7
        have tp8 := (tp.same S7).same S8
        have R8 := (R6.same S7).same S8
        have S08 := (S6.trans S7).trans S8
        have huH : H u = none := (S6.trans S7).free hu
        generalize upd H7 u (.tup [optV (some x), .int (c : Int)]) = H8 at hu8 hq8 tp8 R8 S08
        have nuq : u ≠ q := ne_of hu8 hq8 (by intro z; cases z)
        refine ⟨q, _, _, rfl, rfl, hq8, (by rw [List.length_map]; exact small1000 (by omega)), ?_⟩
        have nt : ∀ (y : Addr) (xs : List V), H8 y = some (.tup xs) → upd H8 q (.lst (rs.map V.ref ++ [V.ref u])) y = some (.tup xs) := fun y xs e => by
          rw [upd_ne (ne_of e hq8 (by intro z; cases z))]
          exact e
        have tp9 := (tp8.kx nt).snoc (nt _ _ hu8)
        have hq9 : (upd H8 q (.lst (rs.map V.ref ++ [V.ref u]))) q = some (.lst ((rs ++ [u]).map V.ref)) := by rw [upd_same, List.map_append]; rfl
        have S09 : Same H (upd H8 q (.lst (rs.map V.ref ++ [V.ref u]))) := fun y v e => by
          rw [upd_ne (ne_of_none e hqH)]
          exact S08 _ _ e
        have R9 : LoopAt CLp (upd H8 q (.lst (rs.map V.ref ++ [V.ref u]))) p o d gs m ks as (hereF (tabOf gs m bs) M) (some x) false := by
          obtain ⟨dx, e⟩ := R8.ob
          have nqo : o ≠ q := fun z => by
            have := R8.ho
            rw [z, hq8] at this
            have h2 := R8.okG.1
            have h3 := R8.h1
            have : rs.map V.ref = (repOffs gs m).map V.int := by
              injection this with this
              injection this
            have hl1 := congrArg List.length this
            have hlo : (repOffs gs m).length = m := by simp [repOffs]
            rw [List.length_map, List.length_map, hlo] at hl1
            cases rs with
            | nil => rw [List.length_nil] at hl1; omega
            | cons y ys =>
              cases e5 : repOffs gs m with
              | nil => rw [e5] at hlo; rw [List.length_nil] at hlo; omega
              | cons y2 ys2 => rw [e5] at this; cases this
          exact ⟨⟨dx, by rw [upd_ne nqp.symm]; exact e⟩, by rw [upd_ne nqo]; exact R8.ho, R8.D.keep (upd_ne nqd.symm) (fun a ha => upd_ne fun z => nqa (z ▸ ha)), R8.no, R8.kb, R8.bd, R8.okG, R8.h1, R8.h2⟩
        generalize upd H8 q (.lst (rs.map V.ref ++ [V.ref u])) = H9 at tp9 hq9 S09 R9
        clear nt tp8 hq8 R8 S08 hu8 S8 hu hq7 hl7 S7 tp R6 hob6 hq6 S6
        obtain ⟨dx9, hob9⟩ := R9.ob
        refine ⟨_, rfl, p, dx9, _, rfl, hob9, lpf_no _ _ _ _ _ _ (by decide +kernel) (by decide +kernel) (by decide +kernel) (by decide +kernel) (by decide +kernel) (by decide +kernel), _, rfl, p, o, d, gs, m, ks, as, _, some x, false, c, rfl, R9, fun Ha G Ra => ?_⟩
        rw [hereF_erase hMn c] at Ra
        have S0a : Same H Ha := fun y v e => G.fp y v (S09 _ _ e) (ne_of_none e hpH) (ne_of_none e hdH) (fun z => by have := hasH y z; rw [e] at this; cases this)
        have hqa := G.fp _ _ hq9 nqp nqd nqa
        have ntup : ∀ (y : Addr) (xs : List V), H9 y = some (.tup xs) → Ha y = some (.tup xs) := fun y xs e => G.fp y _ e (ne_of e hob9 (by intro z; cases z)) (ne_of e R9.D.hd (by intro z; cases z)) (fun z => by obtain ⟨i, e2⟩ := R9.D.some_ z; rw [e] at e2; cases e2)
        have tpa := tp9.kx ntup
        obtain ⟨dxa, hoba⟩ := Ra.ob
        refine ⟨_, rfl, p, dxa, _, rfl, hoba, lpf_no _ _ _ _ _ _ (by decide +kernel) (by decide +kernel) (by decide +kernel) (by decide +kernel) (by decide +kernel) (by decide +kernel), _, rfl, _, rfl, _, _, rfl, rfl, p, o, d, gs, m, ks, as, _, some x, true, x + ℓ, rfl, Ra, by omega, (fun z => nomatch z), fun L' Hb kxb Rb hL' => ?_⟩
        refine ⟨x + ℓ, L', ps ++ [(x, (c : Int))], rs ++ [u], _, rfl, fun y v e => kxb y v (ne_of_none e hpH) (S0a _ _ e), Rb, hL', kxb _ _ nqp hqa, tpa.kx (fun y xs e => kxb y _ (ne_of e hoba (by intro z; cases z)) e), fun y hy => ?_, hMn.sublist List.erase_sublist, ?_, fun qs R h => ?_⟩
        · rcases List.mem_append.mp hy with hy | hy
          · exact hrs y hy
          · rw [List.mem_singleton.mp hy]
            exact huH
        · rw [List.length_append, List.length_singleton]
          omega
        · rw [List.append_assoc]
          exact hSv _ R (.go hL hc h)
end
end RS
namespace RS
open PySem L2 PySem.Spec PyProof.Rows PySem.W
/-! ### min of a list of tuples, without and with a default of None -/
def AlikeD (ds : List PyData) : Prop := AlikeAll ds ∧ PyData.depthAll ds ≤ 60 ∧ ∀ e ∈ ds, e.canLay0 = true
def rMinL (K : PySem.W.Frag) : List V → Hp → VK → Prop := fun vs H Q => ∃ (a : Addr) (xs : List V) (d : PyData) (ds : List PyData), vs = [V.ref a] ∧ SqL K H a xs ∧ DpAll K H xs (d :: ds) ∧ AlikeD (d :: ds) ∧ ∀ (i : Nat) (x : V), xs[i]? = some x → (d :: ds)[i]? = some (minD d ds) → Q x H
theorem vals_get : ∀ {xs : List V} {us : List Value} {i : Nat} {v : Value}, Vals xs us → us[i]? = some v → ∃ x, xs[i]? = some x ∧ RelV x v
  | _, _, _, _, .nil, h => nomatch h
  | _, _, 0, _, .cons r _, h => by
    cases h
    exact ⟨_, rfl, r⟩
  | _, _, i + 1, _, .cons _ rs, h => vals_get (i := i) rs h
theorem data_at {h h' : Heap} {us : List Value} {ds : List PyData} {as bs : List Addr} {i : Nat} {v : Value} {e : PyData} (hr : ReadsAll h us ds as) (hv : us[i]? = some v) (kp : ∀ b o, h.get? b = some o → h'.get? b = some o) (hl : ∀ e ∈ ds, e.canLay0 = true) (r : Reads h' v e bs) : ds[i]? = some e := by
  obtain ⟨cs, r1, hi, hm, _⟩ := readsAll_at hr i v hv
  have r2 := reads_keeps kp r1
  have := (PySem.Reads.unique r2 _ _ r).1
  rw [← this, List.getElem?_eq_getElem hi, List.getD_eq_getElem?_getD, List.getElem?_eq_getElem hi]
  rfl
theorem cr_minL {X : Cx} (hc : X.calm = true) (hu : X.A.units + 64 < cLine) : CallR X (.builtin "min") (rMinL X.K) := by
  intro pins s σ H vs us Q I r h
  obtain ⟨a, xs, d, ds, rfl, hs, hd, ⟨hal, hdp, hlay⟩, q⟩ := h
  obtain ⟨its, rv, hl, _⟩ := I.list hs
  rw [Vals.ref1 r]
  obtain ⟨as, hr⟩ := Dp.readsAll I _ _ _ hd rv
  refine min_list_data (I.ok.hd hc) hl.isList (x := d) (xs := ds) (as := as) (by simpa using hr) hal (by omega) fun i v h' tk bs hv hrd hk => ?_
  have hv' : its[i]? = some v := by simpa using hv
  obtain ⟨x, hx, rx⟩ := vals_get rv hv'
  exact ⟨x, H, I.kept hk, rx, q i x hx (data_at hr hv' hk hlay hrd)⟩
def rMinLD (K : PySem.W.Frag) : List V → List V → Hp → VK → Prop := fun vs zs H Q => ∃ (a : Addr) (xs : List V) (ds : List PyData), vs = [V.ref a] ∧ zs = [V.non] ∧ SqL K H a xs ∧ DpAll K H xs ds ∧ AlikeD ds ∧ (ds = [] → Q .non H) ∧ ∀ (d : PyData) (r : List PyData) (i : Nat) (x : V), ds = d :: r → xs[i]? = some x → ds[i]? = some (minD d r) → Q x H
theorem cr_minLD {X : Cx} (hc : X.calm = true) (hu : X.A.units + 64 < cLine) : CallRK X (.builtin "min") ["default"] (rMinLD X.K) := by
  intro pins s σ H vs zs us ws Q I r rz h
  obtain ⟨a, xs, ds, rfl, rfl, hs, hd, ⟨hal, hdp, hlay⟩, q0, q⟩ := h
  obtain ⟨its, rv, hl, _⟩ := I.list hs
  rw [Vals.ref1 r]
  obtain ⟨d, rfl, rd⟩ := vals1 rz
  cases (show d = Value.none from rd)
  obtain ⟨as, hr⟩ := Dp.readsAll I _ _ _ hd rv
  refine min_list_default (I.ok.hd hc) hl.isList (xs := ds) (as := as) (by simpa using hr) hal (by omega) (fun hz h' tk hk => ⟨.non, H, I.kept hk, rfl, q0 hz⟩) fun y ys i v h' tk bs hds hv hrd hk => ?_
  have hv' : its[i]? = some v := by simpa using hv
  obtain ⟨x, hx, rx⟩ := vals_get rv hv'
  exact ⟨x, H, I.kept hk, rx, q y ys i x hds hx (data_at hr hv' hk hlay hrd)⟩
/-- the least of pairs -/
def pairD (p : Int × Int) : PyData := .tuple [.int p.1, .int p.2]
def pairLt (p q : Int × Int) : Prop := p.1 < q.1 ∨ p.1 = q.1 ∧ p.2 < q.2
theorem pairs_alike (ps : List (Int × Int)) : AlikeD (ps.map pairD) := by
  refine ⟨⟨fun x hx y hy => ?_, fun x hx => ?_⟩, ?_, fun e he => ?_⟩
  · obtain ⟨p, _, rfl⟩ := List.mem_map.mp hx
    obtain ⟨q, _, rfl⟩ := List.mem_map.mp hy
    rfl
  · obtain ⟨p, _, rfl⟩ := List.mem_map.mp hx
    exact fun z => nomatch z
  · induction ps with
    | nil => decide
    | cons p r ih =>
      show max 1 (PyData.depthAll (r.map pairD)) ≤ 60
      omega
  · obtain ⟨p, _, rfl⟩ := List.mem_map.mp he
    rfl
theorem minD_pairs : ∀ (p : Int × Int) (ps : List (Int × Int)), ∃ q ∈ p :: ps, minD (pairD p) (ps.map pairD) = pairD q ∧ ∀ x ∈ p :: ps, ¬ pairLt x q := by
  intro p ps
  induction ps generalizing p with
  | nil => exact ⟨p, List.mem_cons_self .., rfl, fun x hx => by rw [List.mem_singleton.mp hx]; unfold pairLt; omega⟩
  | cons y r ih =>
    by_cases h : pairLt y p
    · obtain ⟨q, h1, h2, h3⟩ := ih y
      refine ⟨q, List.mem_cons_of_mem _ h1, ?_, fun x hx => ?_⟩
      · rw [← h2]
        unfold minD
        rw [List.map_cons, List.foldl_cons]
        have : dataLt (pairD y) (pairD p) = true := by unfold pairD; rw [dataLt_ii]; exact decide_eq_true h
        rw [if_pos this]
      · rcases List.mem_cons.mp hx with rfl | hx
        · have := h3 y (List.mem_cons_self ..)
          unfold pairLt at this h ⊢
          omega
        · exact h3 x hx
    · obtain ⟨q, h1, h2, h3⟩ := ih p
      refine ⟨q, ?_, ?_, fun x hx => ?_⟩
      · rcases List.mem_cons.mp h1 with rfl | h1
        · exact List.mem_cons_self ..
        · exact List.mem_cons_of_mem _ (List.mem_cons_of_mem _ h1)
      · rw [← h2]
        unfold minD
        rw [List.map_cons, List.foldl_cons]
        have : ¬ dataLt (pairD y) (pairD p) = true := by unfold pairD; rw [dataLt_ii, decide_eq_true_iff]; exact h
        rw [if_neg this]
      · rcases List.mem_cons.mp hx with rfl | hx
        · exact h3 x (List.mem_cons_self ..)
        · rcases List.mem_cons.mp hx with rfl | hx
          · have := h3 p (List.mem_cons_self ..)
            unfold pairLt at this h ⊢
            omega
          · exact h3 x (List.mem_cons_of_mem _ hx)
end RS
namespace RS
open PySem L2
/-! ### the law's users of each residue -/
/-- a dict of lists: what stands for each number -/
structure UseD (H : Hp) (d : Addr) (kvs : List (Key × V)) (f : Int → List Nat) : Prop where
  hd : H d = some (.dK kvs)
  get : ∀ r, (∃ a, valV kvs (Sum.inl r) = some (.ref a) ∧ H a = some (.lst ((f r).map nV))) ∨ (valV kvs (Sum.inl r) = none ∧ f r = [])
  key : ∀ kv ∈ kvs, ∃ r : Int, kv.1 = Sum.inl r
theorem UseD.kx {H H' : Hp} {d : Addr} {kvs : List (Key × V)} {f : Int → List Nat} (U : UseD H d kvs f) (S : Same H H') : UseD H' d kvs f :=
  ⟨S _ _ U.hd, fun r => (U.get r).imp (fun ⟨a, e1, e2⟩ => ⟨a, e1, S _ _ e2⟩) id, U.key⟩
theorem UseD.put {H : Hp} {d : Addr} {kvs : List (Key × V)} {f : Int → List Nat} (U : UseD H d kvs f) {r : Int} {p : Addr} {l : List Nat} (hp : H p = some (.lst (l.map nV))) : UseD (upd H d (.dK (putK kvs (Sum.inl r) (.ref p)))) d (putK kvs (Sum.inl r) (.ref p)) (fun x => if x = r then l else f x) := by
  have off : ∀ (a : Addr) (xs : List V), H a = some (.lst xs) → (upd H d (.dK (putK kvs (Sum.inl r) (.ref p)))) a = some (.lst xs) := fun a xs e => by
    rw [upd_ne (ne_of e U.hd (by intro z; cases z))]
    exact e
  refine ⟨upd_same, fun x => ?_, fun kv h => ?_⟩
  · rw [valV_put]
    by_cases hx : x = r
    · rw [if_pos (by rw [hx]), if_pos hx]
      exact .inl ⟨p, rfl, off _ _ hp⟩
    · rw [if_neg (fun z => hx (Sum.inl.inj z)), if_neg hx]
      exact (U.get x).imp (fun ⟨a, e1, e2⟩ => ⟨a, e1, off _ _ e2⟩) id
  · unfold putK at h
    split at h
    · obtain ⟨kv', h1, rfl⟩ := List.mem_map.mp h
      obtain ⟨y, hy⟩ := U.key _ h1
      refine ⟨y, ?_⟩
      split <;> exact hy
    · rcases List.mem_append.mp h with h | h
      · exact U.key _ h
      · rw [List.mem_singleton.mp h]
        exact ⟨r, rfl⟩
theorem UseD.congr {H : Hp} {d : Addr} {kvs : List (Key × V)} {f g : Int → List Nat} (U : UseD H d kvs f) (h : ∀ r, f r = g r) : UseD H d kvs g := by
  have : f = g := funext h
  rw [← this]
  exact U
theorem here_snoc {T : List (List Int)} {M : List Nat} (c : Nat) : entF (hereF T M) (T.getD c []) c = hereF T (M ++ [c]) := by
  funext r
  unfold entF hereF
  rw [List.filter_append]
  by_cases hr : r ∈ T.getD c []
  · rw [if_pos hr]
    congr 1
    rw [List.filter_cons, if_pos (decide_eq_true hr)]
    rfl
  · rw [if_neg hr]
    have : List.filter (fun c => decide (r ∈ T.getD c [])) [c] = [] := by
      rw [List.filter_cons, if_neg (by rw [decide_eq_false hr]; decide)]
      rfl
    rw [this, List.append_nil]
/-- the least of what was found -/
theorem found_lone {f : Int → List Nat} {P s : Int} {ps : List (Int × Int)} (hP : 0 < P) (fb : ∀ r, f r ≠ [] → 0 ≤ r ∧ r < P)
    (h1 : ∀ pq ∈ ps, ∃ (r : Int) (c : Nat), f r = [c] ∧ pq = (s + (r - s) % P, (c : Int))) (h2 : ∀ r c, f r = [c] → (s + (r - s) % P, (c : Int)) ∈ ps) :
    (ps = [] → IsLone f P s none) ∧ ∀ q ∈ ps, (∀ x ∈ ps, ¬ pairLt x q) → ∃ c : Nat, q.2 = (c : Int) ∧ IsLone f P s (some q.1) ∧ f (q.1 % P) = [c] := by
  have back : ∀ t, s ≤ t → (f (t % P)).length = 1 → ∃ x ∈ ps, x.1 ≤ t := fun t ht hl => by
    obtain ⟨c, hc⟩ := one_of_len hl
    refine ⟨_, h2 _ _ hc, ?_⟩
    show s + (t % P - s) % P ≤ t
    rw [Int.emod_sub_emod]
    have a1 := Int.mul_ediv_add_emod (t - s) P
    have a2 := Int.mul_nonneg (show 0 ≤ P by omega) (Int.ediv_nonneg (show 0 ≤ t - s by omega) (show 0 ≤ P by omega))
    omega
  refine ⟨fun e t ht hl => ?_, fun q hq hmin => ?_⟩
  · obtain ⟨x, hx, _⟩ := back t ht hl
    rw [e] at hx
    cases hx
  · obtain ⟨r, c, hc, rfl⟩ := h1 q hq
    have hb := fb r (by rw [hc]; exact fun z => nomatch z)
    have h0 := Int.emod_nonneg (r - s) (show P ≠ 0 by omega)
    have em : (s + (r - s) % P) % P = r := by rw [Int.add_emod_emod, show s + (r - s) = r by omega, Int.emod_eq_of_lt hb.1 hb.2]
    refine ⟨c, rfl, ⟨(by show s ≤ s + (r - s) % P; omega), (by show (f ((s + (r - s) % P) % P)).length = 1; rw [em, hc]; rfl), fun t ht1 ht2 hl => ?_⟩, (by show f ((s + (r - s) % P) % P) = [c]; rw [em]; exact hc)⟩
    obtain ⟨x, hx, hxt⟩ := back t ht1 hl
    refine hmin x hx (.inl ?_)
    show x.1 < s + (r - s) % P
    have ht2 : t < s + (r - s) % P := ht2
    omega
section
variable {P : Program} {w : World} {K : PySem.W.Frag} {mg : Str → Option Value} {base : Heap}
def spFi : Sp := fun vs H Q _ => ∃ (tb l : Addr) (ts : List Addr) (T : List (List Int)) (per s : Int) (M : List Nat), vs = [.ref tb, .int per, .ref l, .int s] ∧ 0 < per ∧ H tb = some (.lst (ts.map V.ref)) ∧ LsAt H ts T ∧ (∀ x ∈ T, x.Nodup) ∧ (∀ x ∈ T, ∀ r ∈ x, 0 ≤ r ∧ r < per) ∧ (∀ x ∈ T, x.length ≤ 20) ∧ H l = some (.lst (M.map nV)) ∧ (∀ c ∈ M, c < T.length) ∧ M.length ≤ 40 ∧
  ∀ L v H', IsLone (hereF T M) per s L → Same H H' → NsV (hereF T M) per H' L v → Q v H'
def fiN : List Str := ["_law_rows", "_law_period", "_law_left", "_law_slot", "_law_users", "_law_client", "_law_residue", "_law_found"]
theorem scFi : FnScope fiN ["_law_rows", "_law_period", "_law_left", "_law_slot"] (defScope s_law_first) := ⟨rfl, rfl, rfl, by decide +kernel, rfl, by decide +kernel, by decide +kernel⟩
theorem ok_fi {f C : Addr} {fd : FuncData} (F : Fun K "_law_first" "_law_first" s_law_first f fd) (T : Txt K mg C) : FnOk P w K mg base CX0 1 f fd ["_law_rows", "_law_period", "_law_left", "_law_slot"] spFi := by
  refine F.ok scFi (fun vs H Q E h => ?_) (fun cdv A outer s H vs Q E hr h => ?_)
  · obtain ⟨tb, l, ts, TT, per, s, M, rfl, _⟩ := h
    rfl
  · obtain ⟨tb, l, ts, TT, per, st, M, rfl, hP, htb, hL, hTn, hTb, hT20, hl, hMT, hM40, k⟩ := h
    have hu := hu_of hr
    refine ⟨_, (pss_cons (ps_set (i := 4) scFi.nd rfl (Or.inl rfl) pe_dnewK) (pss_cons (ps_for PassesOwn.never rfl (pi_list (pv 2)) (pg_name (i := 5) scFi.nd rfl (Or.inl rfl)) (pss_one (ps_for PassesOwn.never rfl (pi_list (pe_ix ix_list (pv 0) (pv 5) (fun _ _ => rfl))) (pg_name (i := 6) scFi.nd rfl (Or.inl rfl)) (pss_one (ps_dput hu (pv 4) (pv 6) (pe_op op_cat (pe_dget2 hu (pv 4) (pv 6) (pe_lst pa_nil) ⟨by rfl, by rfl, by rfl, by rfl⟩) (pe_lst (pa_cons (pv 5) pa_nil))) rfl))))) (pss_cons (ps_set (i := 7) scFi.nd rfl (Or.inl rfl) (pe_lst pa_nil)) (pss_cons (ps_lock (ps_for PassesOwn.never rfl (pi_keys (pv 4)) (pg_name (i := 6) scFi.nd rfl (Or.inl rfl)) (pss_one (ps_if (pt_cmpR op_eq (pe_callB call_len_seq (by rfl) T.len (by decide +kernel) (pa_cons (pe_dget hu (pv 4) (pv 6) (fun _ _ => rfl)) pa_nil)) pe_int (nomark _)) (pss_one (ps_expr (pe_bm PySem.F.plainAttrs_list PySem.F.slot_list_append PySem.F.type_list_append mt_append (pv 7) (pa_cons (pe_tup (pa_cons (pe_op op_add (pv 3) (pe_op op_mod (pe_callTy call_int1 (by rfl) T.int (by decide +kernel) (pa_cons (pe_op op_sub (pv 6) (pv 3)) pa_nil)) (pv 1))) (pa_cons (pe_ix ix_list (pe_dget hu (pv 4) (pv 6) (fun _ _ => rfl)) pe_int (fun _ _ => rfl)) pa_nil))) pa_nil)))) pss_nil)))) (pss_one (ps_ret (pe_ifExp (pt_cmpR (op_neNil hr.units) (pv 7) (pe_lst pa_nil) (nomark _)) (pe_callB (cr_minL rfl hr.units) (by rfl) T.min (by decide +kernel) (pa_cons (pv 7) pa_nil)) pe_non))))))), ?_⟩
    intro d hd
    have hdtb : tb ≠ d := ne_of_none htb hd
    have hdl : l ≠ d := ne_of_none hl hd
    have hd0 : (upd H d (.dK [])) d = some (.dK []) := upd_same
    have S0 : Same H (upd H d (.dK [])) := same_new hd
    have row : ∀ {i c : Nat}, M[i]? = some c → ∃ (p : Addr) (r : List Int), TT[c]? = some r ∧ TT.getD c [] = r ∧ ts[c]? = some p ∧ H p = some (.lst (r.map V.int)) ∧ r.length ≤ 20 ∧ r.Nodup := fun {i c} h => by
      have hg := hMT c (List.mem_of_getElem? h)
      have e := List.getElem?_eq_getElem hg
      obtain ⟨p, h1, h2⟩ := hL.2 c _ e
      exact ⟨p, _, e, by rw [List.getD_eq_getElem?_getD, e]; rfl, h1, h2, hT20 _ (List.getElem_mem hg), hTn _ (List.getElem_mem hg)⟩
    -- who uses what
    refine ⟨_, rfl, l, rfl, ⟨_, SqL.of (S0 _ _ hl)⟩, for_list (a := l) (xs := M.map nV) (fun i σ H' => ∃ kvs v5 v6, σ = [some (.ref tb), some (.int per), some (.ref l), some (.int st), some (.ref d), v5, v6, none] ∧ Same H H' ∧ UseD H' d kvs (hereF TT (M.take i)) ∧ kvs.length ≤ 20 * i)
      ⟨[], none, none, rfl, S0, ⟨hd0, fun r => .inr ⟨rfl, rfl⟩, fun kv h => nomatch h⟩, Nat.zero_le _⟩ (fun i σ H' _ q => let ⟨_, _, _, _, S, _⟩ := q; SqL.of (S _ _ hl)) ?_ ?_⟩
    · rintro i x σ H2 hx ⟨kvs, v5, v6, rfl, S2, U2, hk2⟩
      have hi := (List.getElem?_eq_some_iff.mp hx).1
      rw [List.length_map] at hi
      obtain ⟨c, hc, rfl⟩ := nmap_of hx
      obtain ⟨p, rw_, hr0, hr1, hp, hpr, hr20, hrn⟩ := row hc
      have hf40 : ∀ x, (hereF TT (M.take i) x).length ≤ 40 := fun x => Nat.le_trans (hereF_len _ _ x) (by rw [List.length_take]; omega)
      refine ⟨_, rfl, _, rfl, tb, _, _, .ref p, rfl, rfl, SqL.of (S2 _ _ htb), atI_nat (by rw [List.getElem?_map, hp]; rfl), ?_⟩
      refine ⟨p, rfl, ⟨_, SqL.of (S2 _ _ hpr)⟩, for_list (a := p) (xs := rw_.map V.int) (fun j σ H' => ∃ kvs v6, σ = [some (.ref tb), some (.int per), some (.ref l), some (.int st), some (.ref d), some (.int (c : Int)), v6, none] ∧ Same H H' ∧ UseD H' d kvs (entF (hereF TT (M.take i)) (rw_.take j) c) ∧ kvs.length ≤ 20 * i + j)
        ⟨kvs, v6, rfl, S2, by rw [List.take_zero, entF_nil]; exact U2, hk2⟩ (fun j σ H' _ q => let ⟨_, _, _, S, _⟩ := q; SqL.of (S _ _ hpr)) ?_ ?_⟩
      · rintro j x σ H3 hx ⟨kvs3, v6, rfl, S3, U3, hk3⟩
        have hj := (List.getElem?_eq_some_iff.mp hx).1
        rw [List.length_map] at hj
        obtain ⟨y, hy, rfl⟩ := map_of hx
        have etk : rw_.take (j + 1) = rw_.take j ++ [y] := by rw [List.take_add_one, hy]; rfl
        have hnot : y ∉ rw_.take j := fun z => by
          obtain ⟨j', e⟩ := List.mem_iff_getElem?.mp z
          have hj' := (List.getElem?_eq_some_iff.mp e).1
          rw [List.length_take] at hj'
          rw [List.getElem?_take_of_lt (by omega)] at e
          have := nodup_at hrn e hy
          omega
        refine ⟨_, rfl, d, rfl, .inl ⟨kvs3, .inl U3.hd⟩, _, rfl, (by show 0 ≤ sizeLine; decide), fun z0 hz0 => ?_⟩
        have Sz := same_new (o := .lst []) hz0
        have hz : (upd H3 z0 (.lst [])) z0 = some (.lst []) := upd_same
        have U4 := U3.kx Sz
        have S4 := S3.trans Sz
        generalize upd H3 z0 (.lst []) = H4 at hz U4 S4
        refine ⟨_, DGet.k (k := Sum.inl y) U4.hd, ?_⟩
        obtain ⟨a, ea, ha⟩ : ∃ a, (valV kvs3 (Sum.inl y)).getD (.ref z0) = .ref a ∧ H4 a = some (.lst ((entF (hereF TT (M.take i)) (rw_.take j) c y).map nV)) := by
          rcases U4.get y with ⟨a, e1, e2⟩ | ⟨e1, e2⟩
          · exact ⟨a, by rw [e1]; rfl, e2⟩
          · exact ⟨z0, by rw [e1]; rfl, by rw [e2]; exact hz⟩
        rw [ea]
        refine ⟨_, rfl, (by show 1 ≤ sizeLine; decide), fun o1 ho1 => ?_⟩
        have So := same_new (o := .lst [V.int (c : Int)]) ho1
        have hfl := entF_len hf40 (L := rw_.take j) (c := c) y
        refine ⟨a, o1, _, _, rfl, rfl, So _ _ ha, upd_same, (by rw [List.length_map]; exact Nat.le_of_lt (small1000 (by show _ + 1 ≤ 1000; omega))), fun n1 hn1 => ?_⟩
        have ecat : (entF (hereF TT (M.take i)) (rw_.take j) c y).map nV ++ [V.int (c : Int)] = (entF (hereF TT (M.take i)) (rw_.take j) c y ++ [c]).map nV := by
          rw [List.map_append]
          rfl
        rw [ecat]
        have Sn := So.trans (same_new (o := .lst ((entF (hereF TT (M.take i)) (rw_.take j) c y ++ [c]).map nV)) hn1)
        have U5 := (U4.kx Sn).put (r := y) (p := n1) (l := entF (hereF TT (M.take i)) (rw_.take j) c y ++ [c]) upd_same
        have S5 := S4.trans Sn
        refine ⟨_, rfl, _, rfl, d, _, rfl, DPut.k (k := Sum.inl y) (U4.kx Sn).hd (small_line (by omega)), ?_⟩
        refine ⟨_, _, rfl, same_app hd S5, U5.congr fun x => ?_, Nat.le_trans (length_putK _ _ _) (by omega)⟩
        rw [etk, ← entF_snoc _ _ _ hnot]
      · rintro σ H3 ⟨kvs3, v6, rfl, S3, U3, hk3⟩
        rw [List.length_map] at hk3
        rw [List.length_map, List.take_length, ← hr1, here_snoc] at U3
        refine ⟨kvs3, _, _, rfl, S3, U3.congr fun x => ?_, by omega⟩
        rw [List.take_add_one, hc]
        rfl
    · rintro σ H2 ⟨kvs, v5, v6, rfl, S2, U2, hk2⟩
      rw [List.length_map] at hk2
      rw [List.length_map, List.take_length] at U2
      refine ⟨(by show 0 ≤ sizeLine; decide), fun q hq => ?_⟩
      have Sq := same_new (o := HO.lst []) hq
      have S3 := S2.trans Sq
      have hq3 : (upd H2 q (.lst [])) q = some (.lst []) := upd_same
      have U3 := U2.kx Sq
      have nqd : q ≠ d := (ne_of_none U2.hd hq).symm
      have hqH : H q = none := S2.free hq
      generalize upd H2 q (.lst []) = H3 at S3 hq3 U3 Sq
        -- who is alone
      refine ⟨d, .dK kvs, U3.hd, trivial, fun od => ?_⟩
      have hdL : (upd H3 d (.frz od (.dK kvs))) d = some (.frz od (.dK kvs)) := upd_same
      have kpL : ∀ b u, b ≠ d → H3 b = some u → (upd H3 d (.frz od (.dK kvs))) b = some u := fun b u nb e => by rw [upd_ne nb]; exact e
      have bkL : ∀ b, b ≠ d → (upd H3 d (.frz od (.dK kvs))) b = H3 b := fun b nb => upd_ne nb
      generalize upd H3 d (.frz od (.dK kvs)) = HL at hdL kpL bkL
      refine ⟨_, rfl, d, od, rfl, .inl ⟨kvs, hdL, for_it (walk_keys (d := d) (o := od) (kvs := kvs)) (fun i σ H' => ∃ v6 rs ps, σ = [some (.ref tb), some (.int per), some (.ref l), some (.int st), some (.ref d), v5, v6, some (.ref q)] ∧ (∀ b u, b ≠ q → HL b = some u → H' b = some u) ∧ H' q = some (.lst (rs.map V.ref)) ∧ TupsI H' rs ps ∧ rs.length ≤ i ∧ (∀ pq ∈ ps, ∃ (r : Int) (c : Nat), hereF TT M r = [c] ∧ pq = (st + (r - st) % per, (c : Int))) ∧ (∀ j < i, ∀ (r : Int) (v : V) (c : Nat), kvs[j]? = some (Sum.inl r, v) → hereF TT M r = [c] → (st + (r - st) % per, (c : Int)) ∈ ps))
        ⟨v6, [], [], rfl, fun b u _ e => e, kpL _ _ nqd hq3, TupsI.nil, Nat.le_refl _, fun pq h => (nomatch h), fun j h => absurd h (by omega)⟩ (fun i σ H' _ z => let ⟨_, _, _, _, kx, _⟩ := z; kx _ _ nqd.symm hdL) ?_ ?_⟩⟩
      · rintro i x σ H4 H5 hi ⟨v6, rs, ps, rfl, kx4, hq4, tp4, hrl, hin, hall⟩ hy
        obtain ⟨rfl, kk, v, hkk, rfl⟩ := hy
        obtain ⟨r, hr_⟩ := U2.key _ (List.mem_of_getElem? hkk)
        have hr_ : kk = Sum.inl r := hr_
        subst hr_
        obtain ⟨a, hval, ha2⟩ : ∃ a, valV kvs (Sum.inl r) = some (.ref a) ∧ H2 a = some (.lst ((hereF TT M r).map nV)) := by
          rcases U2.get r with z | ⟨z, _⟩
          · exact z
          · have h1 := valV_any (Sum.inl r : Key) kvs
            rw [z] at h1
            have h2 : (kvs.any fun kv => decide (kv.1 = Sum.inl r)) = true := List.any_eq_true.mpr ⟨_, List.mem_of_getElem? hkk, decide_eq_true rfl⟩
            rw [h1] at h2
            cases h2
        have nad : a ≠ d := ne_of ha2 U2.hd (by intro z; cases z)
        have naq : a ≠ q := ne_of_none ha2 hq
        have ha5 := kx4 _ _ naq (kpL _ _ nad (Sq _ _ ha2))
        have hd5 := kx4 _ _ nqd.symm hdL
        have hget : DGet H5 d (.int r) (some (.ref a)) := .inl ⟨_, Sum.inl r, .inr ⟨od, hd5⟩, rfl, hval.symm⟩
        refine ⟨_, rfl, _, rfl, d, .ref a, rfl, hget, a, _, rfl, .inl (SqL.of ha5), rfl, _, rfl, ?_⟩
        rw [List.length_map]
        by_cases h1l : (hereF TT M r).length = 1
        · skip
          refine iteTb (decide_eq_true (by rw [h1l]; rfl)) ?_
          obtain ⟨c, hc⟩ := one_of_len h1l
          rw [hc] at ha5
          refine ⟨_, rfl, .inl ⟨rfl, _, SqL.of hq4⟩, _, rfl, _, rfl, _, rfl, _, _, rfl, rfl, .inl ⟨_, rfl, _, rfl, _, _, rfl, rfl, hP, _, _, rfl, rfl, _, rfl, _, rfl, d, .ref a, rfl, hget, ?_⟩⟩
          have hri : hereF TT M r ≠ [] := by rw [hc]; exact fun z => nomatch z
          refine ⟨a, _, _, .int (c : Int), rfl, rfl, SqL.of ha5, atI_nat (j := 0) rfl, (by show 2 ≤ sizeLine; decide), fun u hu => ?_⟩
          have Su := same_new (o := .tup [.int (st + (r - st) % per), .int (c : Int)]) hu
          have hu6 : (upd H5 u (.tup [.int (st + (r - st) % per), .int (c : Int)])) u = some (.tup [.int (st + (r - st) % per), .int (c : Int)]) := upd_same
          have hq6 := Su _ _ hq4
          have tp6 := tp4.same Su
          have kx6 : ∀ b u2, b ≠ q → HL b = some u2 → (upd H5 u (.tup [.int (st + (r - st) % per), .int (c : Int)])) b = some u2 := fun b u2 n e => Su _ _ (kx4 b u2 n e)
          generalize upd H5 u (.tup [.int (st + (r - st) % per), .int (c : Int)]) = H6 at hu6 hq6 tp6 kx6
          refine ⟨q, _, _, rfl, rfl, hq6, (by rw [List.length_map]; exact small_line (by omega)), ?_⟩
          have nt : ∀ (y : Addr) (xs : List V), H6 y = some (.tup xs) → upd H6 q (.lst (rs.map V.ref ++ [V.ref u])) y = some (.tup xs) := fun y xs e => by
            rw [upd_ne (ne_of e hq6 (by intro z; cases z))]
            exact e
          refine ⟨_, rs ++ [u], ps ++ [(st + (r - st) % per, (c : Int))], rfl, fun b u2 n e => by rw [upd_ne n]; exact kx6 b u2 n e, by rw [upd_same, List.map_append]; rfl, (tp6.kx nt).snoc (nt _ _ hu6), by rw [List.length_append, List.length_singleton]; omega, fun pq h => ?_, fun j hj r' v' c' e1 e2 => ?_⟩
          · rcases List.mem_append.mp h with h | h
            · exact hin pq h
            · exact ⟨r, c, hc, List.mem_singleton.mp h⟩
          · by_cases hji : j < i
            · exact List.mem_append_left _ (hall j hji r' v' c' e1 e2)
            · have : j = i := by omega
              subst this
              rw [hkk] at e1
              cases e1
              rw [hc] at e2
              cases e2
              exact List.mem_append_right _ (List.mem_singleton.mpr rfl)
        · refine iteFb (decide_eq_false (fun z => h1l (by have := V.int.inj z; omega))) ?_
          refine ⟨_, rs, ps, rfl, kx4, hq4, tp4, by omega, hin, fun j hj r' v' c' e1 e2 => ?_⟩
          by_cases hji : j < i
          · exact hall j hji r' v' c' e1 e2
          · have : j = i := by omega
            subst this
            rw [hkk] at e1
            cases e1
            rw [e2] at h1l
            exact absurd rfl h1l
      · rintro σ H4 ⟨v6, rs, ps, rfl, kx4, hq4, tp4, hrl, hin, hall⟩
        refine ⟨kx4 _ _ nqd.symm hdL, ?_⟩
        have S5 : Same H (upd H4 d (.dK kvs)) := fun b u e => by
          have nb : b ≠ d := ne_of_none e hd
          rw [upd_ne nb]
          exact kx4 _ _ (ne_of_none e hqH) (kpL _ _ nb (S3 _ _ e))
        have hq5 : (upd H4 d (.dK kvs)) q = some (.lst (rs.map V.ref)) := by rw [upd_ne nqd]; exact hq4
        have tp5 : TupsI (upd H4 d (.dK kvs)) rs ps := tp4.kx fun y xs e => by
          rw [upd_ne (ne_of e (kx4 _ _ nqd.symm hdL) (by intro z; cases z))]
          exact e
        generalize upd H4 d (.dK kvs) = H5 at S5 hq5 tp5
        have hfb : ∀ r, hereF TT M r ≠ [] → 0 ≤ r ∧ r < per := fun r h => by
          obtain ⟨c, hc⟩ := List.exists_mem_of_ne_nil _ h
          have hr0 := (hereF_mem.mp hc).2
          rw [List.getD_eq_getElem?_getD] at hr0
          cases e : TT[c]? with
          | none => rw [e] at hr0; exact nomatch hr0
          | some x => rw [e] at hr0; exact hTb x (List.mem_of_getElem? e) r hr0
        have hall2 : ∀ r c, hereF TT M r = [c] → (st + (r - st) % per, (c : Int)) ∈ ps := fun r c hc => by
          rcases U2.get r with ⟨a, e1, _⟩ | ⟨_, e⟩
          · unfold valV at e1
            cases e2 : kvs.find? (fun kv => decide (kv.1 = Sum.inl r)) with
            | none => rw [e2] at e1; cases e1
            | some kv =>
              obtain ⟨j, hj⟩ := List.mem_iff_getElem?.mp (List.mem_of_find?_eq_some e2)
              have e3 := of_decide_eq_true (List.find?_some (p := fun kv : Key × V => decide (kv.1 = Sum.inl r)) e2)
              refine hall j (List.getElem?_eq_some_iff.mp hj).1 r kv.2 c ?_ hc
              rw [hj, ← e3]
          · rw [hc] at e
            cases e
        obtain ⟨hnone, hsome⟩ := found_lone hP hfb hin hall2
        refine ⟨_, rfl, (by show 0 ≤ sizeLine; decide), fun e0 he0 => ?_⟩
        have S6 := same_new (o := .lst []) he0
        have hq6 := S6 _ _ hq5
        have tp6 := tp5.same S6
        have S06 := S5.trans S6
        refine ⟨q, e0, _, rfl, rfl, SqL.of hq6, SqL.of upd_same, _, rfl, ?_⟩
        generalize upd H5 e0 (.lst []) = H6 at hq6 tp6 S06
        cases ps with
        | nil =>
          have hrs : rs = [] := List.length_eq_zero_iff.mp tp6.1
          subst hrs
          exact iteFb rfl (k none .non H6 (hnone rfl) S06 rfl)
        | cons p r =>
          have hne : (rs.map V.ref).isEmpty = false := by
            cases rs with
            | nil => cases tp6.1
            | cons _ _ => rfl
          refine iteTb (by rw [hne]; rfl) ?_
          obtain ⟨qq, hqm, hmin, hleast⟩ := minD_pairs p r
          obtain ⟨c, hc1, hc2, hc3⟩ := hsome qq hqm hleast
          refine ⟨_, rfl, q, _, pairD p, r.map pairD, rfl, SqL.of hq6, tupsI_dp tp6, pairs_alike (p :: r), fun i x hx hd9 => ?_⟩
          obtain ⟨u, pq, rfl, hpq, hu9⟩ := tp6.get hx
          have hpq2 : pairD pq = pairD qq := by
            have h1 : ((p :: r).map pairD)[i]? = some (pairD pq) := by rw [List.getElem?_map, hpq]; rfl
            have h2 : ((p :: r).map pairD)[i]? = some (PySem.W.minD (pairD p) (r.map pairD)) := hd9
            rw [hmin] at h2
            rw [h2] at h1
            exact (Option.some.inj h1).symm
          have hpq3 : pq = qq := by
            unfold pairD at hpq2
            injection hpq2 with h1
            injection h1 with h1 h2
            injection h2 with h2 _
            injection h1 with h1
            injection h2 with h2
            exact Prod.ext h1 h2
          subst hpq3
          exact k (some pq.1) (.ref u) H6 hc2 S06 ⟨u, c, rfl, by rw [hu9, hc1], hc3⟩
end
end RS
namespace RS
open PySem L2
/-! ### the law's judge of an order -/
section
variable {P : Program} {w : World} {K : PySem.W.Frag} {mg : Str → Option Value} {base : Heap}
def spOt : Sp := fun vs H Q _ => ∃ (g b q : Addr) (gs : List Int) (m : Nat) (bs : List Int) (s ℓ : Int) (ps : List (Int × Int)) (R : List Nat) (rs : List Addr), vs = [.ref g, .int (m : Int), .ref b, .int s, .int ℓ, .ref q] ∧ H g = some (.lst (gs.map V.int)) ∧ GapsOk gs ∧ 1 ≤ m ∧ m ≤ gs.length ∧ H b = some (.lst (bs.map V.int)) ∧ 1 ≤ bs.length ∧ bs.length ≤ 40 ∧
  H q = some (.lst (rs.map V.ref)) ∧ TupsI H rs ps ∧ Serve (tabOf gs m bs) (per gs m) ℓ (List.range bs.length) s ps R ∧ ∀ H', Same H H' → Q (.bl true) H'
def otN : List Str := ["_law_gaps", "_law_count", "_law_starts_here", "_law_slot", "_law_length", "_law_told", "_law_period", "_law_rows", "_law_left", "_law_service", "_law_start"]
theorem scOt : FnScope otN ["_law_gaps", "_law_count", "_law_starts_here", "_law_slot", "_law_length", "_law_told"] (defScope s_law_order_right) := ⟨rfl, rfl, rfl, by decide +kernel, rfl, by decide +kernel, by decide +kernel⟩
theorem ok_ot {f C fR fI : Addr} {fd fdR fdI : FuncData} (F : Fun K "_law_order_right" "_law_order_right" s_law_order_right f fd) (T : Txt K mg C) (GR : FnOk P w K mg base CX0 1 fR fdR ["_law_gaps", "_law_count", "_law_start"] spLRes) (bR : Binds K fdR ["_law_gaps", "_law_count", "_law_start"] []) (mR : mg "_law_residues" = some (.ref fR)) (kR : PySem.W.keepIn K (.ref fR) = true)
    (GI : FnOk P w K mg base CX0 1 fI fdI ["_law_rows", "_law_period", "_law_left", "_law_slot"] spFi) (bI : Binds K fdI ["_law_rows", "_law_period", "_law_left", "_law_slot"] []) (mI : mg "_law_first" = some (.ref fI)) (kI : PySem.W.keepIn K (.ref fI) = true) :
    FnOk P w K mg base CX0 2 f fd ["_law_gaps", "_law_count", "_law_starts_here", "_law_slot", "_law_length", "_law_told"] spOt := by
  refine F.ok scOt (fun vs H Q E h => ?_) (fun cdv A outer s H vs Q E hr h => ?_)
  · obtain ⟨g, b, q, gs, m, bs, s, ℓ, ps, R, rs, rfl, _⟩ := h
    rfl
  · obtain ⟨g, b, q, gs, m, bs, st, ℓ, ps, R, rs, rfl, hg, okG, h1, h2, hb, hn1, hn40, hq, tp, hSv, k⟩ := h
    refine ⟨_, (pss_cons (ps_set (i := 6) scOt.nd rfl (Or.inl rfl) (pe_ix ix_tup (pe_call GR hr rfl mR kR bR .nil pass0 (pa_cons (pv 0) (pa_cons (pv 1) (pa_cons pe_int pa_nil)))) pe_int (fun _ _ => rfl))) (pss_cons (ps_setLc (i := 7) (own := [("_law_start", 10)]) (g := gName 10) (tt := tYes) (by rfl) scOt.nd rfl rfl (sw_true rfl rfl rfl (by decide +kernel)) (pi_list (pv 2)) (blkOk_by (own := [("_law_start", 10)]) (N := otN) (sc := (defScope s_law_order_right)) (by decide +kernel)) (fun _ _ _ _ _ => (pg_name (i := 10) scOt.nd rfl (Or.inl rfl))) (fun _ _ _ _ _ => pts_nil) (fun _ _ _ _ _ => (pe_ixTK K (by rfl) (pe_call GR hr rfl mR kR bR .nil pass0 (pa_cons (pv 0) (pa_cons (pv 1) (pa_cons (pv 10) pa_nil)))) pe_int))) (pss_cons (ps_set (i := 8) scOt.nd rfl (Or.inl rfl) (pe_listRg rfl (by rfl) T.list (prg_1 (by rfl) T.range (pe_callB call_len_seq (by rfl) T.len (by decide +kernel) (pa_cons (pv 2) pa_nil))))) (pss_cons (ps_for PassesOwn.never rfl (pi_list (pv 5)) (pg_name (i := 9) scOt.nd rfl (Or.inl rfl)) (pss_cons (ps_if (pt_cmpR (op_neD hr.units) (pv 9) (pe_call GI hr rfl mI kI bI .nil pass0 (pa_cons (pv 7) (pa_cons (pv 6) (pa_cons (pv 8) (pa_cons (pv 3) pa_nil))))) (nomark _)) (pss_one (ps_ret pe_bl)) pss_nil) (pss_cons (ps_expr (pe_bm PySem.F.plainAttrs_list PySem.F.slot_list_remove PySem.F.type_list_remove mt_remove (pv 8) (pa_cons (pe_ix ix_tup (pv 9) pe_int (fun _ _ => rfl)) pa_nil))) (pss_one (ps_set (i := 3) scOt.nd rfl (Or.inl rfl) (pe_op op_add (pe_ix ix_tup (pv 9) pe_int (fun _ _ => rfl)) (pv 4))))))) (pss_one (ps_ret (pe_cmpR op_isN (pe_call GI hr rfl mI kI bI .nil pass0 (pa_cons (pv 7) (pa_cons (pv 6) (pa_cons (pv 8) (pa_cons (pv 3) pa_nil))))) pe_non (nomark _)))))))), ?_⟩
    have hper := per_bd okG h1 h2
    -- the period
    refine ⟨_, rfl, _, rfl, g, gs, m, 0, rfl, hg, okG, h1, h2, fun u0 r0 H0 _ S0 hu0 _ => ?_⟩
    refine ⟨u0, _, _, .int (per gs m), rfl, rfl, SqT.of hu0, atI_nat (j := 0) rfl, ?_⟩
    have hb0 := S0 _ _ hb
    -- the rows
    refine ⟨_, rfl, b, rfl, ⟨_, SqL.of hb0⟩, fun D hD => lc_list (a := b) (xs := bs.map V.int) (fun i H' => Same H0 H' ∧ ∃ ts : List Addr, H' D = some (.lst (ts.map V.ref)) ∧ LsAt H' ts ((tabOf gs m bs).take i) ∧ ∀ p ∈ ts, p ≠ D) ⟨same_new hD, [], upd_same, LsAt.nil _, fun p hp => nomatch hp⟩ (fun i H' _ z => SqL.of (z.1 _ _ hb0)) (fun i x H' hi z => ?_) (fun H1 z => ?_)⟩
    · obtain ⟨S, ts, hts, L, nD⟩ := z
      obtain ⟨y, hy, rfl⟩ := map_of hi
      have hil := (List.getElem?_eq_some_iff.mp hy).1
      refine ⟨rfl, ?_⟩
      refine yes_t (iteT ?_)
      refine ⟨_, rfl, _, rfl, _, rfl, g, gs, m, y, rfl, S _ _ (S0 _ _ hg), okG, h1, h2, fun u r H2 hr0 S2 hu hrr => ?_⟩
      have hd2 := S2 _ _ hts
      have nrD : r ≠ D := fun e => by rw [e, hts] at hr0; cases hr0
      have hlt := L.1
      rw [List.length_take] at hlt
      have nD2 : ∀ p ∈ ts ++ [r], p ≠ D := fun p' hp => by
        rcases List.mem_append.mp hp with h | h
        · exact nD p' h
        · rw [List.mem_singleton.mp h]
          exact nrD
      refine ⟨u, _, _, .ref r, rfl, rfl, SqT.of hu, atI_nat (j := 1) rfl, ?_⟩
      refine ⟨_, hd2, ?_, same_app hD (S.trans S2), ts ++ [r], ?_, ?_, nD2⟩
      · rw [List.length_map]
        exact small1000 (by omega)
      · rw [upd_same, List.map_append]
        rfl
      · have eT : (tabOf gs m bs).take (i + 1) = (tabOf gs m bs).take i ++ [resid gs m y] := by
          rw [List.take_add_one]
          unfold tabOf
          rw [List.getElem?_map, hy]
          rfl
        rw [eT]
        exact ((L.mono S2).snoc hrr).off nD2
    obtain ⟨S1, ts, hts, L1, _⟩ := z
    have hTl : (tabOf gs m bs).length = bs.length := by unfold tabOf; rw [List.length_map]
    rw [List.length_map, ← hTl, List.take_length] at L1
    -- the clients left
    refine ⟨_, rfl, b, _, rfl, .inl (SqL.of (S1 _ _ hb0)), _, rfl, ?_⟩
    refine ⟨RgOk.of_le (by omega) (by rw [List.length_map]; omega) (by omega) (by omega), fun l hl => ?_⟩
    have er : rgV 0 ((bs.map V.int).length : Int) = (List.range bs.length).map nV := by
      unfold rgV
      rw [List.length_map, Int.sub_zero, Int.toNat_natCast]
      refine List.map_congr_left fun i _ => ?_
      show V.int (0 + (i : Int)) = V.int (i : Int)
      rw [Int.zero_add]
    rw [er]
    have S2 := same_new (o := .lst ((List.range bs.length).map nV)) hl
    have hl2 : (upd H1 l (.lst ((List.range bs.length).map nV))) l = some (.lst ((List.range bs.length).map nV)) := upd_same
    have L2_ := L1.mono S2
    have hD2 := S2 _ _ hts
    have S01 : Same H H1 := S0.trans S1
    have S02 := S01.trans S2
    have hlH : H l = none := S01.free hl
    have nlD : l ≠ D := (ne_of_none hts hl).symm
    generalize upd H1 l (.lst ((List.range bs.length).map nV)) = H2 at S02 S2 hl2 L2_ hD2
    have hTn := tab_nodup (bs := bs) okG h1 h2
    have hTb := tab_bd (bs := bs) okG h1 h2
    have hT20 : ∀ x ∈ tabOf gs m bs, x.length ≤ 20 := fun x hx => by
      obtain ⟨y, _, rfl⟩ := List.mem_map.mp hx
      rw [resid_len]
      have := okG.1
      omega
    -- service by service
    refine ⟨_, rfl, q, rfl, ⟨_, SqL.of (S02 _ _ hq)⟩, for_list (a := q) (xs := rs.map V.ref) (fun i σ H' => ∃ (M : List Nat) (s2 : Int) (v9 v10 : Option V), σ = [some (.ref g), some (.int (m : Int)), some (.ref b), some (.int s2), some (.int ℓ), some (.ref q), some (.int (per gs m)), some (.ref D), some (.ref l), v9, v10] ∧ Same H H' ∧ Same H1 H' ∧ H' l = some (.lst (M.map nV)) ∧ M.Nodup ∧ (∀ c ∈ M, c < bs.length) ∧ M.length ≤ 40 ∧ Serve (tabOf gs m bs) (per gs m) ℓ M s2 (ps.drop i) R)
      ⟨List.range bs.length, st, none, none, rfl, S02, S2, hl2, List.nodup_range, fun c hc => List.mem_range.mp hc, by rw [List.length_range]; exact hn40, hSv⟩ (fun i σ H' _ z => let ⟨_, _, _, _, _, S, _⟩ := z; SqL.of (S _ _ hq)) ?_ ?_⟩
    · rintro i x σ H3 hx ⟨M, s2, v9, v10, rfl, S3, S13, hl3, hMn, hMb, hM40, hS3⟩
      obtain ⟨u, pq, rfl, hpq, hu⟩ := tp.get hx
      have hu3 := S3 _ _ hu
      have edrop : ps.drop i = pq :: ps.drop (i + 1) := by
        have := (List.getElem?_eq_some_iff.mp hpq)
        rw [List.drop_eq_getElem_cons this.1, this.2]
      rw [edrop] at hS3
      refine ⟨_, rfl, _, rfl, _, rfl, _, rfl, _, rfl, D, l, ts, tabOf gs m bs, per gs m, s2, M, rfl, by omega, S13 _ _ hts, L1.mono S13, hTn, hTb, hT20, hl3, fun c hc => by rw [hTl]; exact hMb c hc, hM40, fun L v H4 hL S4 hv => ?_⟩
      have hu4 := S4 _ _ hu3
      have hl4 := S4 _ _ hl3
      have S14 := S13.trans S4
      have S04 := S3.trans S4
      obtain ⟨hM', c, hc, hrest, e1, e2⟩ : ∃ (hM' : IsLone (hereF (tabOf gs m bs) M) (per gs m) s2 (some pq.1)) (c : Nat), hereF (tabOf gs m bs) M (pq.1 % per gs m) = [c] ∧ Serve (tabOf gs m bs) (per gs m) ℓ (M.erase c) (pq.1 + ℓ) (ps.drop (i + 1)) R ∧ pq.2 = (c : Int) ∧ True := by
        cases hS3 with
        | go a1 a2 a3 => exact ⟨a1, _, a2, a3, rfl, trivial⟩
      cases lone_one hL hM'
      obtain ⟨qq, cc, rfl, hqq, hcc⟩ := hv
      rw [hc] at hcc
      cases hcc
      refine ⟨_, _, .tup (SqT.of hu4) (.cons (.int _) (.cons (.int _) .nil)), .tup (SqT.of hqq) (.cons (.int _) (.cons (.int _) .nil)), rfl, rfl, _, rfl, iteFb (by rw [e1]; simp [PyData.eqv, PyData.eqvAll]) ?_⟩
      have hcM : c ∈ M := (hereF_mem (T := tabOf gs m bs) (r := pq.1 % per gs m).mp (by rw [hc]; exact List.mem_singleton.mpr rfl)).1
      have hlen := List.length_erase_of_mem hcM
      obtain ⟨j2, f1, f2, f3⟩ := erase_at M c hcM
      refine ⟨_, rfl, .inl ⟨rfl, _, SqL.of hl4⟩, _, rfl, u, _, _, .int (c : Int), rfl, rfl, SqT.of hu4, atI_nat (j := 1) (by rw [e1]; rfl), l, M.map (fun n : Nat => (n : Int)), (c : Int), j2, rfl, rfl, (by rw [← nats_ints]; exact hl4), (by rw [List.getElem?_map, f1]; rfl), ?_, ?_⟩
      · intro i2 hi2 z
        rw [List.getElem?_map] at z
        cases e : M[i2]? with
        | none => rw [e] at z; cases z
        | some x =>
          rw [e] at z
          have : x = c := by
            have : (x : Int) = (c : Int) := Option.some.inj z
            omega
          exact f2 i2 hi2 (by rw [e, this])
      have ee : (M.map (fun n : Nat => (n : Int))).eraseIdx j2 = (M.erase c).map (fun n : Nat => (n : Int)) := by rw [← f3, erase_map]
      rw [ee, ← nats_ints]
      have hu5 : (upd H4 l (.lst ((M.erase c).map nV))) u = some (.tup [.int pq.1, .int pq.2]) := by
        rw [upd_ne (ne_of hu4 hl4 (by intro z; cases z))]
        exact hu4
      refine ⟨_, rfl, u, _, _, .int pq.1, rfl, rfl, SqT.of hu5, atI_nat (j := 0) rfl, _, rfl, _, _, rfl, rfl, ?_⟩
      exact ⟨M.erase c, pq.1 + ℓ, _, _, rfl, fun y v e => by rw [upd_ne (ne_of_none e hlH)]; exact S04 _ _ e, fun y v e => by rw [upd_ne (ne_of_none e hl)]; exact S14 _ _ e, upd_same, hMn.sublist List.erase_sublist, fun x hx => hMb x (List.mem_of_mem_erase hx), by omega, hrest⟩
    · rintro σ H3 ⟨M, s2, v9, v10, rfl, S3, S13, hl3, hMn, hMb, hM40, hS3⟩
      rw [List.length_map, tp.1, List.drop_length] at hS3
      refine ⟨_, rfl, _, rfl, _, rfl, _, rfl, D, l, ts, tabOf gs m bs, per gs m, s2, M, rfl, by omega, S13 _ _ hts, L1.mono S13, hTn, hTb, hT20, hl3, fun c hc => by rw [hTl]; exact hMb c hc, hM40, fun L v H4 hL S4 hv => ?_⟩
      have hM' : IsLone (hereF (tabOf gs m bs) M) (per gs m) s2 none := by
        cases hS3 with
        | stop z => exact z
      cases lone_one hL hM'
      have ev : v = .non := hv
      subst ev
      exact ⟨rfl, k _ (S3.trans S4)⟩
end
end RS
namespace RS
open PySem L2
/-! ### services moved, by whole periods, with the clients turned round -/
theorem lone_len {f g : Int → List Nat} {P Q s v : Int} {L : Option Int} (hfg : ∀ t, (g ((t + v) % Q)).length = (f (t % P)).length) (h : IsLone f P s L) : IsLone g Q (s + v) (L.map (· + v)) := by
  have back : ∀ t, (g (t % Q)).length = (f ((t - v) % P)).length := fun t => by
    have := hfg (t - v)
    rwa [show t - v + v = t by omega] at this
  cases L with
  | none => exact fun t ht => by rw [back]; exact h (t - v) (by omega)
  | some x =>
    refine ⟨(by show s + v ≤ x + v; have := h.1; omega), (by show (g ((x + v) % Q)).length = 1; rw [hfg]; exact h.2.1), fun t h1 h2 => ?_⟩
    rw [back]
    have h2 : t < x + v := h2
    exact h.2.2 (t - v) (by omega) (by omega)
theorem Serve.move {T T' : List (List Int)} {P ℓ v : Int} (hh : ∀ (M : List Nat) (t : Int), hereF T' M ((t + v) % P) = hereF T M (t % P)) {M : List Nat} {s : Int} {ps : List (Int × Int)} {R : List Nat} (h : Serve T P ℓ M s ps R) : Serve T' P ℓ M (s + v) (ps.map fun p => (p.1 + v, p.2)) R := by
  induction h with
  | @stop M s h => exact .stop (lone_len (fun t => by rw [hh M t]) h)
  | @go M s b c ps R h hc r ih =>
    have h1 := lone_len (g := hereF T' M) (Q := P) (v := v) (fun t => by rw [hh M t]) h
    refine .go h1 (by show hereF T' M ((b + v) % P) = [c]; rw [hh M b]; exact hc) ?_
    have e : b + v + ℓ = b + ℓ + v := by omega
    rw [e]
    exact ih
theorem Serve.turn {T T' : List (List Int)} {P ℓ : Int} {σ : Nat → Nat} {n : Nat} (hσ : ∀ c, c < n → T'.getD (σ c) [] = T.getD c []) {M : List Nat} {s : Int} {ps : List (Int × Int)} {R : List Nat} (h : Serve T P ℓ M s ps R) :
    (∀ c ∈ M, c < n) → ∀ M' : List Nat, M'.Perm (M.map σ) → ∃ R', Serve T' P ℓ M' s (ps.map fun p => (p.1, ((σ p.2.toNat : Nat) : Int))) R' := by
  have here : ∀ (M M' : List Nat), (∀ c ∈ M, c < n) → M'.Perm (M.map σ) → ∀ r, (hereF T' M' r).Perm ((hereF T M r).map σ) := fun M M' hM hp r => by
    have h1 := hp.filter (fun c => decide (r ∈ T'.getD c []))
    rw [List.filter_map] at h1
    have h2 : M.filter ((fun c => decide (r ∈ T'.getD c [])) ∘ σ) = hereF T M r := List.filter_congr fun c hc => by
      show decide (r ∈ T'.getD (σ c) []) = decide (r ∈ T.getD c [])
      rw [hσ c (hM c hc)]
    rw [h2] at h1
    exact h1
  have len : ∀ (M M' : List Nat), (∀ c ∈ M, c < n) → M'.Perm (M.map σ) → ∀ t : Int, (hereF T' M' ((t + 0) % P)).length = (hereF T M (t % P)).length := fun M M' hM hp t => by
    rw [Int.add_zero, (here M M' hM hp _).length_eq, List.length_map]
  induction h with
  | @stop M s h =>
    intro hM M' hp
    have := lone_len (len M M' hM hp) h
    rw [Int.add_zero] at this
    exact ⟨M', .stop this⟩
  | @go M s b c ps R h hc r ih =>
    intro hM M' hp
    have hcM : c ∈ M := (hereF_mem (T := T) (r := b % P).mp (by rw [hc]; exact List.mem_singleton.mpr rfl)).1
    have h1 := lone_len (len M M' hM hp) h
    rw [Int.add_zero] at h1
    have h1 : IsLone (hereF T' M') P s (some b) := by
      have e : (some b).map (· + (0 : Int)) = some b := by show some (b + 0) = some b; rw [Int.add_zero]
      rw [e] at h1
      exact h1
    have h2 := here M M' hM hp (b % P)
    rw [hc] at h2
    have h3 : hereF T' M' (b % P) = [σ c] := List.perm_singleton.mp h2
    have h4 : (M'.erase (σ c)).Perm ((M.erase c).map σ) := by
      have a1 := (hp.trans ((List.perm_cons_erase hcM).map σ)).erase (σ c)
      rw [List.map_cons, List.erase_cons_head] at a1
      exact a1
    obtain ⟨R', hR⟩ := ih (fun x hx => hM x (List.mem_of_mem_erase hx)) _ h4
    exact ⟨R', .go h1 h3 hR⟩
theorem tab_getD (gs : List Int) (m : Nat) (bs : List Int) (c : Nat) : (tabOf gs m bs).getD c [] = (match bs[c]? with | some y => resid gs m y | none => []) := by
  unfold tabOf
  rw [List.getD_eq_getElem?_getD, List.getElem?_map]
  cases bs[c]? <;> rfl
theorem resid_move (gs : List Int) (m : Nat) (y v t : Int) : ((t + v) % per gs m ∈ resid gs m (y + v)) ↔ t % per gs m ∈ resid gs m y := by
  unfold resid
  rw [List.mem_map, List.mem_map]
  constructor
  · rintro ⟨x, hx, e⟩
    refine ⟨x, hx, ?_⟩
    have := congrArg (fun z => (z - v) % per gs m) e
    simp only [Int.emod_sub_emod] at this
    rwa [show y + v + x - v = y + x by omega, show t + v - v = t by omega] at this
  · rintro ⟨x, hx, e⟩
    refine ⟨x, hx, ?_⟩
    have := congrArg (fun z => (z + v) % per gs m) e
    simp only [Int.emod_add_emod] at this
    rwa [show y + x + v = y + v + x by omega] at this
theorem tab_move (gs : List Int) (m : Nat) (bs : List Int) (v : Int) (M : List Nat) (t : Int) : hereF (tabOf gs m (bs.map (· + v))) M ((t + v) % per gs m) = hereF (tabOf gs m bs) M (t % per gs m) := by
  unfold hereF
  refine List.filter_congr fun c _ => decide_eq_decide.mpr ?_
  rw [tab_getD, tab_getD, List.getElem?_map]
  cases bs[c]? with
  | none => exact ⟨(fun h => nomatch h), (fun h => nomatch h)⟩
  | some y => exact resid_move gs m y v t
theorem resid_per (gs : List Int) (m : Nat) (y k : Int) : resid gs m (y - per gs m * k) = resid gs m y := by
  unfold resid
  refine List.map_congr_left fun x _ => ?_
  rw [show y - per gs m * k + x = y + x + per gs m * (-k) by rw [Int.mul_neg]; omega, Int.add_mul_emod_self_left]
theorem tab_turn (gs : List Int) (m : Nat) (bs : List Int) (c : Nat) (hc : c < bs.length) : (tabOf gs m bs.reverse).getD (bs.length - 1 - c) [] = (tabOf gs m bs).getD c [] := by
  rw [tab_getD, tab_getD, List.getElem?_reverse (by omega), show bs.length - 1 - (bs.length - 1 - c) = c by omega]
theorem range_turn (n : Nat) : (List.range n).Perm ((List.range n).map fun c => n - 1 - c) := by
  have e : (List.range n).map (fun c => n - 1 - c) = (List.range n).reverse := by
    refine List.ext_getElem? fun i => ?_
    by_cases hi : i < n
    · rw [List.getElem?_map, List.getElem?_range hi, List.getElem?_reverse (by rw [List.length_range]; exact hi), List.length_range, List.getElem?_range (by omega)]
      rfl
    · rw [List.getElem?_eq_none (by rw [List.length_map, List.length_range]; omega), List.getElem?_eq_none (by rw [List.length_reverse, List.length_range]; omega)]
  rw [e]
  exact (List.reverse_perm _).symm
/-- a list of pairs that is made from another -/
def TL (H0 : Hp) (D : Addr) (ps : List (Int × Int)) (f : Int × Int → Int × Int) (i : Nat) (H' : Hp) : Prop := Same H0 H' ∧ ∃ rs' : List Addr, H' D = some (.lst (rs'.map V.ref)) ∧ TupsI H' rs' ((ps.take i).map f)
theorem TL.init {H0 : Hp} {D : Addr} (ps : List (Int × Int)) (f : Int × Int → Int × Int) (hD : H0 D = none) : TL H0 D ps f 0 (upd H0 D (.lst [])) := ⟨same_new hD, [], upd_same, TupsI.nil⟩
theorem TL.step {H0 H' : Hp} {D u : Addr} {ps : List (Int × Int)} {f : Int × Int → Int × Int} {i : Nat} {pq : Int × Int} {x y : Int} (hD : H0 D = none) (h : TL H0 D ps f i H') (hi : ps[i]? = some pq) (hl : ps.length ≤ 1000) (e : f pq = (x, y)) (hu : H' u = none) :
    ∃ xs, (upd H' u (.tup [.int x, .int y])) D = some (.lst xs) ∧ xs.length < sizeLine ∧ TL H0 D ps f (i + 1) (upd (upd H' u (.tup [.int x, .int y])) D (.lst (xs ++ [.ref u]))) := by
  obtain ⟨S, rs', h1, tp⟩ := h
  have Su := same_new (o := HO.tup [.int x, .int y]) hu
  have hu2 : (upd H' u (.tup [.int x, .int y])) u = some (.tup [.int x, .int y]) := upd_same
  have h2 := Su _ _ h1
  have tp2 := tp.same Su
  generalize upd H' u (.tup [.int x, .int y]) = H2 at Su hu2 h2 tp2
  have hlt := tp.1
  rw [List.length_map, List.length_take] at hlt
  refine ⟨_, h2, by rw [List.length_map]; exact small1000 (by omega), same_app hD (S.trans Su), rs' ++ [u], by rw [upd_same, List.map_append]; rfl, ?_⟩
  have nt : ∀ (z : Addr) (xs : List V), H2 z = some (.tup xs) → upd H2 D (.lst (rs'.map V.ref ++ [V.ref u])) z = some (.tup xs) := fun z xs e => by
    rw [upd_ne (ne_of e h2 (by intro z; cases z))]
    exact e
  rw [List.take_add_one, hi, List.map_append]
  show TupsI _ _ (_ ++ [f pq])
  rw [e]
  exact (tp2.kx nt).snoc (nt _ _ hu2)
theorem Serve.cl {T : List (List Int)} {P ℓ : Int} {n : Nat} {s : Int} {ps : List (Int × Int)} {R : List Nat} (h : Serve T P ℓ (List.range n) s ps R) : ∀ p ∈ ps, ∃ c : Nat, c < n ∧ p.2 = (c : Int) := fun p hp => by
  have h1 : p.2 ∈ ps.map (·.2) ++ R.map fun n : Nat => (n : Int) := List.mem_append_left _ (List.mem_map.mpr ⟨p, hp, rfl⟩)
  obtain ⟨c, hc, e⟩ := List.mem_map.mp (h.perm.mem_iff.mp h1)
  exact ⟨c, List.mem_range.mp hc, e.symm⟩
theorem Serve.back_ {gs : List Int} {m : Nat} {bs : List Int} {ℓ s : Int} {ps : List (Int × Int)} {R : List Nat} (h : Serve (tabOf gs m bs) (per gs m) ℓ (List.range bs.length) s ps R) : ∃ R', Serve (tabOf gs m bs.reverse) (per gs m) ℓ (List.range bs.length) s (ps.map fun p => (p.1, (bs.length : Int) - 1 - p.2)) R' := by
  obtain ⟨R', h1⟩ := h.turn (T' := tabOf gs m bs.reverse) (σ := fun c => bs.length - 1 - c) (n := bs.length) (fun c hc => tab_turn gs m bs c hc) (fun c hc => List.mem_range.mp hc) _ (range_turn bs.length)
  refine ⟨R', ?_⟩
  have e : (ps.map fun p => (p.1, (bs.length : Int) - 1 - p.2)) = ps.map fun p => (p.1, ((bs.length - 1 - p.2.toNat : Nat) : Int)) := List.map_congr_left fun p hp => by
    obtain ⟨c, hc, e2⟩ := h.cl p hp
    rw [e2, Int.toNat_natCast, show (bs.length : Int) - 1 - (c : Int) = ((bs.length - 1 - c : Nat) : Int) by omega]
  rw [e]
  exact h1
/-- what the law holds behind the order -/
structure FarAt (C : Addr) (H : Hp) (a L D p g2 t o E2 q : Addr) (cs gs : List Int) (m : Nat) (bs : List Int) (ps : List (Int × Int)) (rs : List Addr) (b : Nat) : Prop where
  B : LawAt C H a L D p g2 t o cs gs (.rep m)
  hb : H E2 = some (.lst (bs.map V.int))
  hq : H q = some (.lst (rs.map V.ref))
  tp : TupsI H rs ps
  S : Src H a b
theorem FarAt.same {C : Addr} {H H' : Hp} {a L D p g2 t o E2 q : Addr} {cs gs : List Int} {m : Nat} {bs : List Int} {ps : List (Int × Int)} {rs : List Addr} {b : Nat} (F : FarAt C H a L D p g2 t o E2 q cs gs m bs ps rs b) (S : Same H H') : FarAt C H' a L D p g2 t o E2 q cs gs m bs ps rs b :=
  ⟨F.B.same S, S _ _ F.hb, S _ _ F.hq, F.tp.same S, F.S.mono S⟩
theorem FarAt.kx {C : Addr} {H H' : Hp} {a L D p g2 t o E2 q : Addr} {cs gs : List Int} {m : Nat} {bs : List Int} {ps : List (Int × Int)} {rs : List Addr} {b b' : Nat} (F : FarAt C H a L D p g2 t o E2 q cs gs m bs ps rs b) (n1 : E2 ≠ a) (n2 : q ≠ a) (kx : Kx a H H') (S : Src H' a b') : FarAt C H' a L D p g2 t o E2 q cs gs m bs ps rs b' :=
  ⟨F.B.kx kx, kx _ _ n1 F.hb, kx _ _ n2 F.hq, F.tp.kxs F.S kx, S⟩
theorem heq_of {x : Bool} {A : List (Int × Int)} (h : x = !PyData.eqv (.list (winD A)) (.list (winD A))) : x = false := by rw [h, win_eqvL, decide_eq_true rfl]; rfl
end RS
namespace RS
open PySem L2
def klN : List Str := ["_law_script", "_law_cell", "_law_source", "_law_gaps", "_law_count", "_law_rule", "_law_starts_here", "_law_slot", "_law_length", "_law_told", "_law_served", "_law_blocked", "_law_move", "_law_moved", "_law_early", "_law_backward", "_law_client", "_law_place", "_law_partners", "_law_start"]
theorem scLaw : FnScope klN ["_law_script"] (defScope s_law) := ⟨rfl, rfl, rfl, by decide +kernel, rfl, by decide +kernel, by decide +kernel⟩
theorem Src.put {H : Hp} {a r : Addr} {b : Nat} {o : HO} (h : Src H a b) (n : a ≠ r) : Src (upd H r o) a b := by
  obtain ⟨s0, s1, s2, h1, h2⟩ := h.ex
  exact ⟨s0, s1, s2, by rw [upd_ne n]; exact h1, h2⟩
theorem PrT.get {H : Hp} : ∀ {rs : List V} {ds : List (Nat × List Nat)}, PrT H rs ds → ∀ {i : Nat} {x : V}, rs[i]? = some x → ∃ (t pt : Addr) (c : Nat) (ms : List Nat), x = .ref t ∧ ds[i]? = some (c, ms) ∧ H t = some (.tup [.int (c : Int), .ref pt])
  | _, _, .nil, _, _, h => nomatch h
  | _, _, .cons a b r, 0, x, h => by
    cases h
    exact ⟨_, _, _, _, rfl, rfl, a⟩
  | _, _, .cons a b r, i + 1, x, h => r.get (i := i) h
theorem blk_fst (T : List (List Int)) (ks : List Nat) {i : Nat} {c : Nat} {ms : List Nat} (h : (blkOf T ks)[i]? = some (c, ms)) : ks[i]? = some c := by
  unfold blkOf at h
  rw [List.getElem?_map] at h
  cases e : ks[i]? with
  | none => rw [e] at h; cases h
  | some x => rw [e] at h; cases h; rfl
section
variable {P : Program} {w : World} {K : PySem.W.Frag} {mg : Str → Option Value} {base : Heap}
theorem ok_law {f C fI fP fCell fSrc fN fO fRep fSts fOt fSo fBl : Addr} {fd fdI fdP fdCell fdSrc fdN fdO fdRep fdSts fdOt fdSo fdBl : FuncData} (F : Fun K "law" "law" s_law f fd) (T : Txt K mg C) (M : Mk K C fI) (GI : FnOk P w K mg base CX0 3 fI fdI ["self", "gaps", "tail"] (spInit C)) (bI : Binds K fdI ["self", "gaps", "tail"] [])
    (GP : FnOk P w K mg base CX0 2 fP fdP ["self"] (spPer C)) (bP : Binds K fdP ["self"] []) (mP : Meth K C "period" fP)
    (GCell : FnOk P w K mg base CX0 1 fCell fdCell ["_law_script", "_law_index"] (spCell K)) (bCell : Binds K fdCell ["_law_script", "_law_index"] []) (mCell : mg "_law_cell_at" = some (.ref fCell)) (kCell : PySem.W.keepIn K (.ref fCell) = true)
    (GSrc : FnOk P w K mg base CX0 1 fSrc fdSrc ["_law_cell"] spSrcOf) (bSrc : Binds K fdSrc ["_law_cell"] []) (mSrc : mg "_law_source_of" = some (.ref fSrc)) (kSrc : PySem.W.keepIn K (.ref fSrc) = true)
    (GN : FnOk P w K mg base CX0 1 fN fdN ["_law_source", "_law_bound"] spNext) (bN : Binds K fdN ["_law_source", "_law_bound"] []) (mN : mg "_law_draw" = some (.ref fN)) (kN : PySem.W.keepIn K (.ref fN) = true)
    (GO : FnOk P w K mg base CX0 2 fO fdO ["_law_source", "_law_options"] spOne) (bO : Binds K fdO ["_law_source", "_law_options"] []) (mO : mg "_law_choice" = some (.ref fO)) (kO : PySem.W.keepIn K (.ref fO) = true)
    (GRep : FnOk P w K mg base CX0 3 fRep fdRep ["_law_source"] spRep) (bRep : Binds K fdRep ["_law_source"] []) (mRep : mg "_law_repeating" = some (.ref fRep)) (kRep : PySem.W.keepIn K (.ref fRep) = true)
    (GSts : FnOk P w K mg base CX0 3 fSts fdSts ["_law_source", "_law_gaps", "_law_count", "_law_most"] spSts) (bSts : Binds K fdSts ["_law_source", "_law_gaps", "_law_count", "_law_most"] []) (mSts : mg "_law_starts" = some (.ref fSts)) (kSts : PySem.W.keepIn K (.ref fSts) = true)
    (GOt : FnOk P w K mg base CX0 2 fOt fdOt ["_law_gaps", "_law_count", "_law_starts_here", "_law_slot", "_law_length", "_law_told"] spOt) (bOt : Binds K fdOt ["_law_gaps", "_law_count", "_law_starts_here", "_law_slot", "_law_length", "_law_told"] []) (mOt : mg "_law_order_right" = some (.ref fOt)) (kOt : PySem.W.keepIn K (.ref fOt) = true)
    (GSo : FnOk P w K mg base CX0 7 fSo fdSo ["rule", "starts", "slot", "length"] (spSo C)) (bSo : Binds K fdSo ["rule", "starts", "slot", "length"] []) (mSo : mg "service_order" = some (.ref fSo)) (kSo : PySem.W.keepIn K (.ref fSo) = true)
    (GBl : FnOk P w K mg base CX0 6 fBl fdBl ["rule", "starts"] (spBlk K C)) (bBl : Binds K fdBl ["rule", "starts"] []) (mBl : mg "blocked_clients" = some (.ref fBl)) (kBl : PySem.W.keepIn K (.ref fBl) = true) :
    FnOk P w K mg base CX0 8 f fd ["_law_script"] (spLaw K) := by
  refine F.ok scLaw (fun vs H Q E h => ?_) (fun cdv A outer s H vs Q E hr h => ?_)
  · obtain ⟨a, ns, rfl, _⟩ := h
    rfl
  · obtain ⟨sc, ns, rfl, hs, hn63, k⟩ := h
    have hr1 := hr.mono (show 1 ≤ 7 by decide)
    have hr2 := hr.mono (show 2 ≤ 7 by decide)
    have hr3 := hr.mono (show 3 ≤ 7 by decide)
    have hr4 := hr.mono (show 4 ≤ 7 by decide)
    have hr6 := hr.mono (show 6 ≤ 7 by decide)
    refine ⟨_, (pss_cons (ps_for PassesOwn.never rfl (pi_list (pe_op op_cat (pe_lst (pa_cons (pe_call GCell hr1 rfl mCell kCell bCell .nil pass0 (pa_cons (pv 0) (pa_cons pe_int pa_nil))) pa_nil)) (pe_slice sl_list (pv 0) (po_some pe_int) (po_some pe_int)))) (pg_name (i := 1) scLaw.nd rfl (Or.inl rfl)) (pss_cons (ps_set (i := 2) scLaw.nd rfl (Or.inr rfl) (pe_call GSrc hr1 rfl mSrc kSrc bSrc .nil pass0 (pa_cons (pv 1) pa_nil))) (pss_cons (ps_asg (pe_call GRep hr3 rfl mRep kRep bRep .nil pass0 (pa_cons (pv 2) pa_nil)) (pg_tup rfl (pgs_cons (pg_name (i := 3) scLaw.nd rfl (Or.inl rfl)) (pgs_cons (pg_name (i := 4) scLaw.nd rfl (Or.inl rfl)) pgs_nil)))) (pss_cons (ps_set (i := 5) scLaw.nd rfl (Or.inr rfl) (pe_make M GI hr4 rfl T.mgC bI .nil pass0 (pa_cons (pv 3) (pa_cons (pe_tup (pa_cons pe_str (pa_cons (pv 4) pa_nil))) pa_nil)))) (pss_cons (ps_set (i := 6) scLaw.nd rfl (Or.inr rfl) (pe_call GSts hr3 rfl mSts kSts bSts .nil pass0 (pa_cons (pv 2) (pa_cons (pv 3) (pa_cons (pv 4) (pa_cons pe_int pa_nil)))))) (pss_cons (ps_set (i := 7) scLaw.nd rfl (Or.inl rfl) (pe_op op_add (pe_op op_add (pe_callB (cr_max rfl) (by rfl) T.max (by decide +kernel) (pa_cons (pv 6) pa_nil)) (pe_callB (cr_sum rfl) (by rfl) T.sum (by decide +kernel) (pa_cons (pv 3) pa_nil))) (pe_call GN hr1 rfl mN kN bN .nil pass0 (pa_cons (pv 2) (pa_cons (pe_call GO hr2 rfl mO kO bO .nil pass0 (pa_cons (pv 2) (pa_cons (pe_lst (pa_cons pe_int (pa_cons (pe_op op_pow pe_int pe_int) pa_nil))) pa_nil))) pa_nil))))) (pss_cons (ps_set (i := 8) scLaw.nd rfl (Or.inl rfl) (pe_op op_add pe_int (pe_call GN hr1 rfl mN kN bN .nil pass0 (pa_cons (pv 2) (pa_cons (pe_call GO hr2 rfl mO kO bO .nil pass0 (pa_cons (pv 2) (pa_cons (pe_lst (pa_cons pe_int (pa_cons pe_int (pa_cons (pe_op op_pow pe_int pe_int) pa_nil)))) pa_nil))) pa_nil))))) (Evl.pss_cut (ps_set (i := 9) scLaw.nd rfl (Or.inl rfl) (pe_call GSo hr rfl mSo kSo bSo .nil pass0 (pa_cons (pv 5) (pa_cons (pv 6) (pa_cons (pv 7) (pa_cons (pv 8) pa_nil)))))) (pss_cons (ps_if (pt_not (pt_val (pe_call GOt hr2 rfl mOt kOt bOt .nil pass0 (pa_cons (pv 3) (pa_cons (pv 4) (pa_cons (pv 6) (pa_cons (pv 7) (pa_cons (pv 8) (pa_cons (pv 9) pa_nil))))))))) (pss_one (ps_ret pe_bl)) pss_nil) (pss_cons (ps_setLc (i := 10) (own := [("_law_place", 17), ("_law_client", 16)]) (g := gTup K 2 (gCons (gName 17) (gCons (gName 16) gNil))) (tt := tYes) (by rfl) scLaw.nd rfl rfl (sw_true rfl rfl rfl (by decide +kernel)) (pi_list (pv 9)) (blkOk_by (own := [("_law_place", 17), ("_law_client", 16)]) (N := klN) (sc := defScope s_law) (by decide +kernel)) (fun _ _ _ _ _ => pg_tup rfl (pgs_cons (pg_name (i := 17) scLaw.nd rfl (Or.inl rfl)) (pgs_cons (pg_name (i := 16) scLaw.nd rfl (Or.inl rfl)) pgs_nil))) (fun _ _ _ _ _ => pts_nil) (fun _ _ _ _ _ => pv 16)) (pss_cons (ps_setLc (i := 11) (own := [("_law_client", 16), ("_law_partners", 18)]) (g := gTup K 2 (gCons (gName 16) (gCons (gName 18) gNil))) (tt := tYes) (by rfl) scLaw.nd rfl rfl (sw_true rfl rfl rfl (by decide +kernel)) (pi_list (pe_call GBl hr6 rfl mBl kBl bBl .nil pass0 (pa_cons (pv 5) (pa_cons (pv 6) pa_nil)))) (blkOk_by (own := [("_law_client", 16), ("_law_partners", 18)]) (N := klN) (sc := defScope s_law) (by decide +kernel)) (fun _ _ _ _ _ => pg_tup rfl (pgs_cons (pg_name (i := 16) scLaw.nd rfl (Or.inl rfl)) (pgs_cons (pg_name (i := 18) scLaw.nd rfl (Or.inl rfl)) pgs_nil))) (fun _ _ _ _ _ => pts_nil) (fun _ _ _ _ _ => pv 16)) (Evl.pss_cut (ps_if (pt_cmpR (op_neD hr.units) (pe_callB cr_sortedI (by rfl) T.sorted (by decide +kernel) (pa_cons (pe_op op_cat (pv 10) (pv 11)) pa_nil)) (pe_listRg rfl (by rfl) T.list (prg_1 (by rfl) T.range (pe_callB call_len_seq (by rfl) T.len (by decide +kernel) (pa_cons (pv 6) pa_nil)))) (nomark _)) (pss_one (ps_ret pe_bl)) pss_nil) (pss_cons (ps_set (i := 12) scLaw.nd rfl (Or.inr rfl) (pe_op op_sub (pe_call GN hr1 rfl mN kN bN .nil pass0 (pa_cons (pv 2) (pa_cons (pe_op op_pow pe_int pe_int) pa_nil))) (pe_op op_pow pe_int pe_int))) (pss_cons (ps_set (i := 13) scLaw.nd rfl (Or.inl rfl) (pe_call GSo hr rfl mSo kSo bSo .nil pass0 (pa_cons (pv 5) (pa_cons (pe_lc (own := [("_law_start", 19)]) (g := gName 19) (tt := tYes) rfl scLaw.nd (pi_list (pv 6)) (blkOk_by (own := [("_law_start", 19)]) (N := klN) (sc := (defScope s_law)) (by decide +kernel)) (fun _ _ _ _ _ => (pg_name (i := 19) scLaw.nd rfl (Or.inl rfl))) (fun _ _ _ _ _ => pts_nil) (fun _ _ _ _ _ => (pe_op op_add (pv 19) (pv 12)))) (pa_cons (pe_op op_add (pv 7) (pv 12)) (pa_cons (pv 8) pa_nil)))))) (Evl.pss_cut (ps_if (pt_cmpR (op_neD hr.units) (pv 13) (pe_lc (own := [("_law_place", 17), ("_law_client", 16)]) (g := gTup K 2 (gCons (gName 17) (gCons (gName 16) gNil))) (tt := tYes) rfl scLaw.nd (pi_list (pv 9)) (blkOk_by (own := [("_law_place", 17), ("_law_client", 16)]) (N := klN) (sc := defScope s_law) (by decide +kernel)) (fun _ _ _ _ _ => pg_tup rfl (pgs_cons (pg_name (i := 17) scLaw.nd rfl (Or.inl rfl)) (pgs_cons (pg_name (i := 16) scLaw.nd rfl (Or.inl rfl)) pgs_nil))) (fun _ _ _ _ _ => pts_nil) (fun _ _ _ _ _ => (pe_tup (pa_cons (pe_op op_add (pv 17) (pv 12)) (pa_cons (pv 16) pa_nil))))) (nomark _)) (pss_one (ps_ret pe_bl)) pss_nil) (pss_cons (ps_setLc (i := 14) (own := [("_law_start", 19)]) (g := gName 19) (tt := tYes) (by rfl) scLaw.nd rfl rfl (sw_true rfl rfl rfl (by decide +kernel)) (pi_list (pv 6)) (blkOk_by (own := [("_law_start", 19)]) (N := klN) (sc := (defScope s_law)) (by decide +kernel)) (fun _ _ _ _ _ => (pg_name (i := 19) scLaw.nd rfl (Or.inl rfl))) (fun _ _ _ _ _ => pts_nil) (fun _ _ _ _ _ => (pe_op op_sub (pv 19) (pe_op op_mul (pe_meth0 (pv 5) T.cl mP GP hr2 bP .nil pass0) (pe_call GN hr1 rfl mN kN bN .nil pass0 (pa_cons (pv 2) (pa_cons pe_int pa_nil))))))) (Evl.pss_cut (ps_if (pt_cmpR (op_neD hr.units) (pe_call GSo hr rfl mSo kSo bSo .nil pass0 (pa_cons (pv 5) (pa_cons (pv 14) (pa_cons (pv 7) (pa_cons (pv 8) pa_nil))))) (pv 9) (nomark _)) (pss_one (ps_ret pe_bl)) pss_nil) (pss_cons (ps_set (i := 15) scLaw.nd rfl (Or.inl rfl) (pe_call GSo hr rfl mSo kSo bSo .nil pass0 (pa_cons (pv 5) (pa_cons (pe_revL (pv 6)) (pa_cons (pv 7) (pa_cons (pv 8) pa_nil)))))) (pss_one (ps_if (pt_cmpR (op_neD hr.units) (pv 15) (pe_lc (own := [("_law_place", 17), ("_law_client", 16)]) (g := gTup K 2 (gCons (gName 17) (gCons (gName 16) gNil))) (tt := tYes) rfl scLaw.nd (pi_list (pv 9)) (blkOk_by (own := [("_law_place", 17), ("_law_client", 16)]) (N := klN) (sc := defScope s_law) (by decide +kernel)) (fun _ _ _ _ _ => pg_tup rfl (pgs_cons (pg_name (i := 17) scLaw.nd rfl (Or.inl rfl)) (pgs_cons (pg_name (i := 16) scLaw.nd rfl (Or.inl rfl)) pgs_nil))) (fun _ _ _ _ _ => pts_nil) (fun _ _ _ _ _ => (pe_tup (pa_cons (pv 17) (pa_cons (pe_op op_sub (pe_op op_sub (pe_lenK K (by rfl) (by rfl) T.len (pv 6)) pe_int) (pv 16)) pa_nil))))) (nomark _)) (pss_one (ps_ret pe_bl)) pss_nil)))))))))))))))))))) (pss_one (ps_ret pe_bl))), ?_⟩
    -- the cells
    refine ⟨_, rfl, sc, ns, rfl, hs, (by show 1 ≤ sizeLine; decide), fun l1 hl1 => ?_⟩
    refine ⟨_, rfl, _, rfl, _, rfl, sc, _, rfl, (same_new hl1).seq hs, fun l2 hl2 => ?_⟩
    have hl1' := same_new (o := .lst (cutV (ns.map V.int) (some 1) (some 4))) hl2 _ _ (upd_same (H := H) (a := l1) (o := .lst [V.int (ns.getD 0 0)]))
    refine ⟨l1, l2, _, _, rfl, rfl, hl1', upd_same, ?_, fun L hL => ?_⟩
    · have := cutV_length (ns.map V.int) (some 1) (some 4)
      rw [List.length_map] at this
      exact Nat.le_of_lt (small1000 (by show 1 + _ ≤ 1000; omega))
    have ecs : [V.int (ns.getD 0 0)] ++ cutV (ns.map V.int) (some 1) (some 4) = (cellsOf 4 ns).map V.int := by
      rw [show (some (1 : Int)) = some ((1 : Nat) : Int) from rfl, show (some (4 : Int)) = some ((4 : Nat) : Int) from rfl, cut_mid]
      unfold cellsOf
      rw [List.map_cons, List.map_take, List.map_drop]
      rfl
    rw [ecs]
    generalize cellsOf 4 ns = cs
    refine ⟨L, rfl, ⟨_, SqL.of upd_same⟩, for_list (a := L) (xs := cs.map V.int) (fun i σ H' => (∃ v1 v2 v3 v4 v5 v6 v7 v8 v9 v10 v11 v12 v13 v14 v15 v16 v17 v18 v19, σ = [some (.ref sc), v1, v2, v3, v4, v5, v6, v7, v8, v9, v10, v11, v12, v13, v14, v15, v16, v17, v18, v19]) ∧ H' L = some (.lst (cs.map V.int))) ⟨⟨_, _, _, _, _, _, _, _, _, _, _, _, _, _, _, _, _, _, _, rfl⟩, upd_same⟩ (fun i σ H' _ p => SqL.of p.2) ?_ (fun σ H' p => k H')⟩
    rintro i x σ H0 hx ⟨⟨v1, v2, v3, v4, v5, v6, v7, v8, v9, v10, v11, v12, v13, v14, v15, v16, v17, v18, v19, rfl⟩, hL0⟩
    obtain ⟨c, _, rfl⟩ := map_of hx
    clear hx
    refine ⟨_, rfl, c, rfl, fun a H1 ha S1 R1 => ?_⟩
    have nLa : L ≠ a := ne_of_none hL0 ha
    have hL1 := S1 _ _ hL0
    refine ⟨_, rfl, a, 0, rfl, R1, by omega, fun u D gs m H2 hg0 hu hg okG hm1 hm2 kx2 R2 => ?_⟩
    have nga : D ≠ a := (R1.new hg0).symm
    have hL2 := kx2 _ _ nLa hL1
    clear kx2 R1 hL1 hL0 ha S1
    refine ⟨u, _, rfl, SqT.of hu, rfl, _, _, rfl, _, _, rfl, rfl, ?_⟩
    -- the rule
    refine ⟨_, rfl, _, rfl, (by show 2 ≤ sizeLine; decide), fun t0 ht0 => fun p dx hp hdx _ => ?_⟩
    have St := same_new (o := .tup [V.str "repeat", .int (m : Int)]) ht0
    have ht1 : (upd H2 t0 (.tup [V.str "repeat", .int (m : Int)])) t0 = some (.tup (Tl.rep m).vs) := upd_same
    have hg2' := St _ _ hg
    have hL2' := St _ _ hL2
    have R2' := R2.mono St
    generalize (upd H2 t0 (.tup [V.str "repeat", .int (m : Int)])) = H3 at hp hdx ht1 hg2' hL2' R2' ⊢
    have Sm : Same H3 (upd (upd H3 dx (.own p)) p (.ins C dx [])) := made_same hp hdx
    refine ⟨p, dx, D, t0, gs, .rep m, rfl, upd_same, Sm _ _ hg2', Sm _ _ ht1, okG, ⟨hm1, hm2⟩, fun g2 o H4 hg2 ho kp R4 => ⟨rfl, ?_⟩⟩
    have S4 : Same H3 H4 := fun b u e => kp b u (Sm _ _ e) (ne_of_none e hp)
    have Ra := R2'.mono Sm
    have B4 : LawAt C H4 a L D p g2 t0 o cs gs (.rep m) := by
      obtain ⟨s0, s1, s2, hsa, _⟩ := R2'.ex
      exact ⟨R4, S4 _ _ hL2', S4 _ _ hg2', nLa, nga, (R2'.new hp).symm, (Ra.new hg2).symm, ne_of ht1 hsa (by intro z; cases z), (Ra.new ho).symm⟩
    have R4s := R2'.mono S4
    clear hg ht1 nga hL2 R2 Sm hp hdx hg2 ho kp R4 S4 Ra nLa hu hg0 hg2' hL2' R2' St ht0
    -- the starts
    refine ⟨_, rfl, _, rfl, _, rfl, a, D, gs, m, 30, 0 + 30, rfl, R4s, by omega, B4.ng, B4.hg, okG, hm1, hm2, by decide, by decide, fun E2 bs H5 hb0 hb hb1 hb30 kx5 R5 => ?_⟩
    have B5 := B4.kx kx5
    have nba : E2 ≠ a := (R4s.new hb0).symm
    clear B4 R4s kx5 hb0
    -- the slot
    refine ⟨_, rfl, E2, bs, rfl, SqL.of hb, hb1, fun mx hmx hle => ?_⟩
    refine ⟨_, rfl, D, gs, rfl, SqL.of B5.hg, _, _, rfl, rfl, ?_⟩
    refine ⟨_, rfl, _, rfl, _, _, rfl, rfl, ⟨by decide, by decide, by decide⟩, (by show 2 ≤ sizeLine; decide), fun q1 hq1 => ?_⟩
    have S6 : Same H5 (upd H5 q1 (.lst [.int 99, .int ((10 : Int) ^ (29 : Int).toNat)])) := same_new hq1
    refine ⟨a, q1, _, 430, rfl, (R5.le (by omega)).mono S6, by omega, (R5.new hq1).symm, upd_same, by show 0 < 2; decide, by show 2 < 1000; decide, fun x H6 hx kx6 R6 => ?_⟩
    obtain ⟨wd, rfl, wd1, wd2⟩ : ∃ wd : Int, x = .int wd ∧ 1 ≤ wd ∧ wd ≤ 100000000000000000000000000000 := by
      simp only [List.mem_cons, List.not_mem_nil, or_false] at hx
      rcases hx with rfl | rfl <;> exact ⟨_, rfl, by decide, by decide⟩
    have B6 := (B5.same S6).kx kx6
    have hb6 := kx6 _ _ nba (S6 _ _ hb)
    clear B5 R5 hb S6 kx6 hx hq1
    refine ⟨a, wd, 431, rfl, R6, by omega, wd1, by omega, fun d1 H7 d10 d11 kx7 R7 => ?_⟩
    have B7 := B6.kx kx7
    have hb7 := kx7 _ _ nba hb6
    clear B6 hb6 R6 kx7
    refine ⟨_, _, rfl, rfl, ?_⟩
    have hpre : pre gs (gs.length - m) ≤ gs.sum := by
      have h1 := per_bd okG hm1 hm2
      rw [← pre_all]
      unfold per at h1
      omega
    have hsl : ∀ y ∈ bs, y + pre gs (gs.length - m) ≤ mx + gs.sum + d1 := fun y hy => by
      have := hle y hy
      omega
    dsimp only [gName]
    generalize mx + gs.sum + d1 = st at hsl ⊢
    -- the length
    refine ⟨_, rfl, _, rfl, _, _, rfl, rfl, ⟨by decide, by decide, by decide⟩, (by show 3 ≤ sizeLine; decide), fun q2 hq2 => ?_⟩
    have S8 : Same H7 (upd H7 q2 (.lst [.int 1, .int 9, .int ((10 : Int) ^ (20 : Int).toNat)])) := same_new hq2
    refine ⟨a, q2, _, 432, rfl, R7.mono S8, by omega, (R7.new hq2).symm, upd_same, by show 0 < 3; decide, by show 3 < 1000; decide, fun x H8 hx kx8 R8 => ?_⟩
    obtain ⟨wl, rfl, wl1, wl2⟩ : ∃ wl : Int, x = .int wl ∧ 1 ≤ wl ∧ wl ≤ 100000000000000000000 := by
      simp only [List.mem_cons, List.not_mem_nil, or_false] at hx
      rcases hx with rfl | rfl | rfl <;> exact ⟨_, rfl, by decide, by decide⟩
    have B8 := (B7.same S8).kx kx8
    have hb8 := kx8 _ _ nba (S8 _ _ hb7)
    clear B7 hb7 R7 S8 kx8 hx hq2
    refine ⟨a, wl, 433, rfl, R8, by omega, wl1, by omega, fun d2 H9 d20 d21 kx9 R9 => ?_⟩
    have B9 := B8.kx kx9
    have hb9 := kx9 _ _ nba hb8
    clear B8 hb8 R8 kx9
    refine ⟨_, _, rfl, rfl, ?_⟩
    dsimp only [gName]
    have hℓ : 1 ≤ 1 + d2 := by omega
    generalize 1 + d2 = ℓ at hℓ ⊢
    -- what is told
    refine ⟨fun σ H' => ∃ (q : Addr) (rs : List Addr) (ps : List (Int × Int)) (R : List Nat), q ≠ a ∧ Serve (tabOf gs m bs) (per gs m) ℓ (List.range bs.length) st ps R ∧ FarAt C H' a L D p g2 t0 o E2 q cs gs m bs ps rs 434 ∧ ∃ w10 w11 w12 w13 w14 w15 w16 w17 w18 w19, σ = [some (.ref sc), some (.int c), some (.ref a), some (.ref D), some (.int (m : Int)), some (.ref p), some (.ref E2), some (.int st), some (.int ℓ), some (.ref q), w10, w11, w12, w13, w14, w15, w16, w17, w18, w19], ?_, ?_⟩
    rotate_left
    · rintro _ Ha ⟨q, rs, ps, R, nqa, hSv, Fa, w10, w11, w12, w13, w14, w15, w16, w17, w18, w19, rfl⟩
      clear B9 hb9 R9
      refine ⟨_, rfl, _, rfl, _, rfl, _, rfl, _, rfl, _, rfl, D, E2, q, gs, m, bs, st, ℓ, ps, R, rs, rfl, Fa.B.hg, okG, hm1, hm2, Fa.hb, hb1, by omega, Fa.hq, Fa.tp, hSv, fun Hb Sb => ?_⟩
      have Fb := Fa.same Sb
      clear Fa Sb
      refine ⟨true, rfl, iteFb rfl ?_⟩
      have hperm := hSv.perm
      have hpl : ps.length ≤ 30 := by
        have := hperm.length_eq
        rw [List.length_append, List.length_map, List.length_map, List.length_map, List.length_range] at this
        omega
      have hrl : rs.length ≤ 30 := by rw [Fb.tp.1]; exact hpl
      -- the served
      refine ⟨_, rfl, q, rfl, ⟨_, SqL.of Fb.hq⟩, fun D1 hD1 => lc_list (a := q) (xs := rs.map V.ref) (fun i H' => Same Hb H' ∧ H' D1 = some (.lst (((ps.take i).map (·.2)).map V.int))) ⟨same_new hD1, upd_same⟩ (fun i H' _ z => SqL.of (z.1 _ _ Fb.hq)) (fun i x H' hi z => ?_) (fun Hy z => ?_)⟩
      · obtain ⟨r, pq, rfl, hpq, hrr⟩ := Fb.tp.get hi
        refine ⟨r, _, rfl, SqT.of (z.1 _ _ hrr), rfl, _, _, rfl, _, _, rfl, rfl, rfl, ?_⟩
        refine yes_t (iteT ?_)
        refine ⟨_, rfl, _, z.2, ?_, same_app hD1 z.1, ?_⟩
        · rw [List.length_map, List.length_map, List.length_take]
          exact small1000 (by omega)
        · rw [upd_same, List.take_add_one, hpq, List.map_append, List.map_append]
          rfl
      obtain ⟨Sy, hD1y⟩ := z
      rw [List.length_map, Fb.tp.1, List.take_length] at hD1y
      have Fy := Fb.same Sy
      clear Fb Sy hD1
      -- the blocked
      refine ⟨_, rfl, _, rfl, p, g2, t0, o, E2, gs, m, bs, rfl, Fy.B.R, Fy.hb, hb1, by omega, fun ks qk rsk Hz hqk Sz hGr hqkz hPr => ?_⟩
      have hrk := hPr.len
      have hkb : (blkOf (tabOf gs m bs) ks).length = ks.length := by unfold blkOf; rw [List.length_map]
      have eR := hSv.great (tab_nodup okG hm1 hm2) (tab_bd okG hm1 hm2) hGr
      have hpm := hperm
      rw [eR] at hpm
      have hkl : ks.length ≤ 30 := by
        have := hpm.length_eq
        rw [List.length_append, List.length_map, List.length_map, List.length_map, List.length_range] at this
        omega
      refine ⟨qk, rfl, ⟨_, SqL.of hqkz⟩, fun D2 hD2 => lc_list (a := qk) (xs := rsk) (fun i H' => Same Hz H' ∧ H' D2 = some (.lst ((ks.take i).map nV))) ⟨same_new hD2, upd_same⟩ (fun i H' _ z => SqL.of (z.1 _ _ hqkz)) (fun i x H' hi z => ?_) (fun Hw z => ?_)⟩
      · obtain ⟨t1, pt, cc, ms, rfl, hds, htt⟩ := hPr.get hi
        have hkc := blk_fst _ _ hds
        refine ⟨t1, _, rfl, SqT.of (z.1 _ _ htt), rfl, _, _, rfl, _, _, rfl, rfl, rfl, ?_⟩
        refine yes_t (iteT ?_)
        refine ⟨_, rfl, _, z.2, ?_, same_app hD2 z.1, ?_⟩
        · rw [List.length_map, List.length_take]
          exact small1000 (by omega)
        · rw [upd_same, List.take_add_one, hkc, List.map_append]
          rfl
      obtain ⟨Sw, hD2w⟩ := z
      rw [hrk, hkb, List.take_length] at hD2w
      have Szw := Sz.trans Sw
      have hD1w := Szw _ _ hD1y
      have Fw := Fy.same Szw
      clear Fy Sz Sw Szw hD1y hqk hqkz hPr hD2
      refine ⟨fun σ H' => FarAt C H' a L D p g2 t0 o E2 q cs gs m bs ps rs 434 ∧ ∃ w10 w11 w12 w13 w14 w15 w16 w17 w18 w19, σ = [some (.ref sc), some (.int c), some (.ref a), some (.ref D), some (.int (m : Int)), some (.ref p), some (.ref E2), some (.int st), some (.int ℓ), some (.ref q), w10, w11, w12, w13, w14, w15, w16, w17, w18, w19], ?_, ?_⟩
      rotate_left
      · clear hD1w hD2w Fw hpm eR hGr
        rintro _ Hc ⟨Fc, u10, u11, u12, u13, u14, u15, u16, u17, u18, u19, rfl⟩
        -- moved
        refine ⟨_, rfl, _, _, rfl, rfl, ⟨by decide, by decide, by decide⟩, a, _, 434, rfl, Fc.S, by omega, by decide, by decide, fun d3 Hd d30 d31 kxd Rd => ?_⟩
        have Fd := Fc.kx nba nqa kxd Rd
        clear Fc kxd Rd
        refine ⟨_, _, rfl, rfl, ⟨by decide, by decide, by decide⟩, _, _, rfl, rfl, ?_⟩
        dsimp only [gName]
        generalize d3 - (10 : Int) ^ (10 : Int).toNat = v
        refine ⟨_, rfl, _, rfl, E2, rfl, ⟨_, SqL.of Fd.hb⟩, fun D3 hD3 => lc_list (a := E2) (xs := bs.map V.int) (fun i H' => Same Hd H' ∧ H' D3 = some (.lst (((bs.take i).map (· + v)).map V.int))) ⟨same_new hD3, upd_same⟩ (fun i H' _ z => SqL.of (z.1 _ _ Fd.hb)) (fun i x H' hi z => ?_) (fun He z => ?_)⟩
        · obtain ⟨y, hy, rfl⟩ := map_of hi
          refine ⟨rfl, ?_⟩
          refine yes_t (iteT ?_)
          refine ⟨_, rfl, _, rfl, _, _, rfl, rfl, _, z.2, ?_, same_app hD3 z.1, ?_⟩
          · rw [List.length_map, List.length_map, List.length_take]
            exact small1000 (by omega)
          · rw [upd_same, List.take_add_one, hy, List.map_append, List.map_append]
            rfl
        obtain ⟨Se, hD3e⟩ := z
        rw [List.length_map, List.take_length] at hD3e
        have Fe := Fd.same Se
        clear Fd Se hD3
        refine ⟨_, rfl, _, rfl, _, _, rfl, rfl, _, rfl, p, g2, t0, o, D3, gs, m, bs.map (· + v), st + v, ℓ, rfl, ⟨Fe.B.R, hD3e, by rw [List.length_map]; exact hb1, by rw [List.length_map]; omega, fun y hy => ?_⟩, hℓ, fun ps2 R2 q2 rs2 Hf hSv2 hq20 hrs20 Sf hqf2 tpf2 => ?_⟩
        · obtain ⟨y0, hy0, rfl⟩ := List.mem_map.mp hy
          have := hsl y0 hy0
          omega
        rw [List.length_map] at hSv2
        obtain ⟨rfl, _⟩ := hSv2.one (hSv.move (tab_move gs m bs v))
        have Ff := Fe.same Sf
        clear Fe Sf hD3e hSv2 hq20 hrs20
        refine ⟨fun σ H' => FarAt C H' a L D p g2 t0 o E2 q cs gs m bs ps rs 435 ∧ ∃ w10 w11 w12 w13 w14 w15 w16 w17 w18 w19, σ = [some (.ref sc), some (.int c), some (.ref a), some (.ref D), some (.int (m : Int)), some (.ref p), some (.ref E2), some (.int st), some (.int ℓ), some (.ref q), w10, w11, w12, w13, w14, w15, w16, w17, w18, w19], ?_, ?_⟩
        rotate_left
        · clear Ff hqf2 tpf2
          rintro _ Hh ⟨Fh, x10, x11, x12, x13, x14, x15, x16, x17, x18, x19, rfl⟩
          -- early
          have naD : ∀ D5, Hh D5 = none → a ≠ D5 := fun D5 h => Fh.S.new h
          refine ⟨_, rfl, E2, rfl, ⟨_, SqL.of Fh.hb⟩, fun D5 hD5 => lc_list (a := E2) (xs := bs.map V.int) (fun i H' => Kx a Hh H' ∧ Src H' a (435 + i) ∧ ∃ es : List Int, H' D5 = some (.lst (es.map V.int)) ∧ es.length = i ∧ es.map (resid gs m) = (bs.take i).map (resid gs m) ∧ ∀ y ∈ es, y + pre gs (gs.length - m) ≤ st) ⟨Kx.of (same_new hD5), Fh.S.mono (same_new hD5), [], upd_same, rfl, rfl, fun y h => nomatch h⟩ (fun i H' _ z => SqL.of (z.1 _ _ nba Fh.hb)) (fun i x H' hi z => ?_) (fun Hi z => ?_)⟩
          · obtain ⟨kx, R, es, hes, hel, her, heb⟩ := z
            obtain ⟨y, hy, rfl⟩ := map_of hi
            have hil := (List.getElem?_eq_some_iff.mp hy).1
            have naD5 := naD D5 hD5
            have hper := per_bd okG hm1 hm2
            refine ⟨rfl, ?_⟩
            refine yes_t (iteT ?_)
            have B' := Fh.B.kx kx
            obtain ⟨dx, hob⟩ := B'.R.ob
            refine ⟨_, rfl, _, rfl, p, dx, _, rfl, hob, flds_no _ _ _ (by decide +kernel) (by decide +kernel) (by decide +kernel), p, g2, t0, o, gs, .rep m, rfl, B'.R, ?_⟩
            refine ⟨_, rfl, a, 9, 435 + i, rfl, R, by omega, by decide, by decide, fun r H2 r0 r1 kx2 R2 => ⟨_, _, rfl, rfl, Or.inr ⟨by omega, by omega⟩, _, _, rfl, rfl, es.map V.int, kx2 D5 _ naD5.symm hes, ?_, ?_, ?_, es ++ [y - per gs m * r], ?_, ?_, ?_, ?_⟩⟩
            · rw [List.length_map]
              exact small1000 (by omega)
            · intro c u n e
              rw [upd_ne (ne_of_none e hD5)]
              exact kx2 c u n (kx c u n e)
            · exact R2.put naD5
            · rw [upd_same, List.map_append]
              rfl
            · rw [List.length_append, hel]
              rfl
            · rw [List.map_append, her, List.take_add_one, hy, List.map_append]
              show _ ++ [resid gs m (y - per gs m * r)] = _ ++ [resid gs m y]
              rw [resid_per]
            · intro y' hy'
              rcases List.mem_append.mp hy' with h | h
              · exact heb y' h
              · rw [List.mem_singleton.mp h]
                have h1 := hsl y (List.mem_of_getElem? hy)
                have h2 := Int.mul_nonneg (show 0 ≤ per gs m by omega) r0
                omega
          obtain ⟨kxi, Ri, es, hes, hel, her, heb⟩ := z
          rw [List.length_map] at hel Ri
          rw [List.length_map, List.take_length] at her
          have Fi := Fh.kx nba nqa kxi (Ri.le (show _ ≤ 465 by omega))
          clear Fh kxi Ri hD5 naD
          refine ⟨fun σ H' => FarAt C H' a L D p g2 t0 o E2 q cs gs m bs ps rs 465 ∧ ∃ w10 w11 w12 w13 w14 w15 w16 w17 w18 w19, σ = [some (.ref sc), some (.int c), some (.ref a), some (.ref D), some (.int (m : Int)), some (.ref p), some (.ref E2), some (.int st), some (.int ℓ), some (.ref q), w10, w11, w12, w13, w14, w15, w16, w17, w18, w19], ?_, ?_⟩
          rotate_left
          · clear Fi hes hel her heb
            rintro _ Hk ⟨Fk, y10, y11, y12, y13, y14, y15, y16, y17, y18, y19, rfl⟩
            -- backward
            refine ⟨_, rfl, _, rfl, E2, _, rfl, SqL.of Fk.hb, fun D6 hD6 => ?_⟩
            rw [← List.map_reverse]
            have S1 := same_new (o := .lst (bs.reverse.map V.int)) hD6
            have hD6l : (upd Hk D6 (.lst (bs.reverse.map V.int))) D6 = some (.lst (bs.reverse.map V.int)) := upd_same
            have Fl := Fk.same S1
            generalize upd Hk D6 (.lst (bs.reverse.map V.int)) = Hl at hD6l Fl
            clear S1 Fk hD6
            refine ⟨_, rfl, _, rfl, p, g2, t0, o, D6, gs, m, bs.reverse, st, ℓ, rfl, ⟨Fl.B.R, hD6l, by rw [List.length_reverse]; exact hb1, by rw [List.length_reverse]; omega, fun y hy => hsl y (List.mem_reverse.mp hy)⟩, hℓ, fun ps5 R5_ q5 rs5 Hm hSv5 hq50 hrs50 Sm_ hqm5 tpm5 => ?_⟩
            rw [List.length_reverse] at hSv5
            obtain ⟨R', hSv6⟩ := hSv.back_
            have e := (hSv6.one hSv5).1
            subst e
            have Fm := Fl.same Sm_
            clear Fl Sm_ hD6l hSv5 hq50 hrs50
            refine ⟨_, rfl, _, rfl, q, rfl, ⟨_, SqL.of Fm.hq⟩, fun D7 hD7 => lc_list (a := q) (xs := rs.map V.ref) (TL Hm D7 ps fun p => (p.1, (bs.length : Int) - 1 - p.2)) (TL.init ps _ hD7) (fun i H' _ z => SqL.of (z.1 _ _ Fm.hq)) (fun i x H' hi z => ?_) (fun Hn z => ?_)⟩
            · obtain ⟨r, pq, rfl, hpq, hrr⟩ := Fm.tp.get hi
              refine ⟨r, _, rfl, SqT.of (z.1 _ _ hrr), rfl, _, _, rfl, _, _, rfl, rfl, rfl, ?_⟩
              refine yes_t (iteT ?_)
              refine ⟨_, rfl, _, rfl, E2, _, rfl, .inl (SqL.of (z.1 _ _ Fm.hb)), _, _, rfl, rfl, _, rfl, _, _, rfl, rfl, (by show 2 ≤ sizeLine; decide), fun u hu => ?_⟩
              exact TL.step (x := pq.1) (y := ((bs.map V.int).length : Int) - 1 - pq.2) hD7 z hpq (by omega) (by rw [List.length_map]) hu
            obtain ⟨Sn, rs7, hD7n, tp7⟩ := z
            rw [List.length_map, Fm.tp.1, List.take_length] at tp7
            refine ⟨_, _, .lst (SqL.of (Sn _ _ hqm5)) (tupsI_dp (tpm5.same Sn)), .lst (SqL.of hD7n) (tupsI_dp tp7), win_shaped _, win_shaped _, _, rfl, iteFb (heq_of rfl) ?_⟩
            exact ⟨⟨_, _, _, _, _, _, _, _, _, _, _, _, _, _, _, _, _, _, _, rfl⟩, (Fm.same Sn).B.hL⟩
          refine ⟨_, rfl, _, rfl, _, rfl, _, rfl, p, g2, t0, o, D5, gs, m, es, st, ℓ, rfl, ⟨Fi.B.R, hes, by omega, by omega, heb⟩, hℓ, fun ps3 R3 q3 rs3 Hj hSv3 hq30 hrs30 Sj hqj3 tpj3 => ?_⟩
          have eT : tabOf gs m es = tabOf gs m bs := her
          rw [eT, hel] at hSv3
          have e := (hSv.one hSv3).1
          subst e
          refine ⟨_, rfl, _, _, .lst (SqL.of hqj3) (tupsI_dp tpj3), .lst (SqL.of (Sj _ _ Fi.hq)) (tupsI_dp (Fi.tp.same Sj)), win_shaped _, win_shaped _, _, rfl, iteFb (heq_of rfl) ?_⟩
          exact ⟨Fi.same Sj, _, _, _, _, _, _, _, _, _, _, rfl⟩
        refine ⟨_, rfl, _, rfl, q, rfl, ⟨_, SqL.of Ff.hq⟩, fun D4 hD4 => lc_list (a := q) (xs := rs.map V.ref) (TL Hf D4 ps fun p => (p.1 + v, p.2)) (TL.init ps _ hD4) (fun i H' _ z => SqL.of (z.1 _ _ Ff.hq)) (fun i x H' hi z => ?_) (fun Hg z => ?_)⟩
        · obtain ⟨r, pq, rfl, hpq, hrr⟩ := Ff.tp.get hi
          refine ⟨r, _, rfl, SqT.of (z.1 _ _ hrr), rfl, _, _, rfl, _, _, rfl, rfl, rfl, ?_⟩
          refine yes_t (iteT ?_)
          refine ⟨_, rfl, _, rfl, _, _, rfl, rfl, _, rfl, (by show 2 ≤ sizeLine; decide), fun u hu => ?_⟩
          exact TL.step hD4 z hpq (by omega) rfl hu
        obtain ⟨Sg, rs4, hD4g, tp4⟩ := z
        rw [List.length_map, Ff.tp.1, List.take_length] at tp4
        refine ⟨_, _, .lst (SqL.of (Sg _ _ hqf2)) (tupsI_dp (tpf2.same Sg)), .lst (SqL.of hD4g) (tupsI_dp tp4), win_shaped _, win_shaped _, _, rfl, iteFb (heq_of rfl) ?_⟩
        exact ⟨Ff.same Sg, _, _, _, _, _, _, _, _, _, _, rfl⟩
      refine ⟨_, rfl, _, rfl, D1, D2, _, _, rfl, rfl, hD1w, hD2w, ?_, fun l3 hl3 => ?_⟩
      · rw [List.length_map, List.length_map, List.length_map]
        exact Nat.le_of_lt (small1000 (by omega))
      have ecat : (ps.map (·.2)).map V.int ++ ks.map nV = (ps.map (·.2) ++ ks.map fun n : Nat => (n : Int)).map V.int := by rw [List.map_append, ← nats_ints]
      rw [ecat]
      have S3 := same_new (o := .lst ((ps.map (·.2) ++ ks.map fun n : Nat => (n : Int)).map V.int)) hl3
      refine ⟨l3, _, rfl, SqL.of upd_same, fun ns' l4 hp4 hpw hl4 => ?_⟩
      have S4 := S3.trans (same_new (o := .lst (ns'.map V.int)) hl4)
      have hl44 : (upd (upd Hw l3 (.lst ((ps.map (·.2) ++ ks.map fun n : Nat => (n : Int)).map V.int))) l4 (.lst (ns'.map V.int))) l4 = some (.lst (ns'.map V.int)) := upd_same
      generalize upd (upd Hw l3 (.lst ((ps.map (·.2) ++ ks.map fun n : Nat => (n : Int)).map V.int))) l4 (.lst (ns'.map V.int)) = H44 at S4 hl44
      refine ⟨_, rfl, E2, _, rfl, .inl (SqL.of (S4 _ _ Fw.hb)), _, rfl, ?_⟩
      refine ⟨RgOk.of_le (by omega) (by rw [List.length_map]; omega) (by omega) (by omega), fun l5 hl5 => ?_⟩
      have er : rgV 0 ((bs.map V.int).length : Int) = ((List.range bs.length).map fun n : Nat => (n : Int)).map V.int := by
        unfold rgV
        rw [List.length_map, Int.sub_zero, Int.toNat_natCast, List.map_map]
        refine List.map_congr_left fun i _ => ?_
        show V.int (0 + (i : Int)) = V.int (i : Int)
        rw [Int.zero_add]
      rw [er]
      have S5 := same_new (o := .lst (((List.range bs.length).map fun n : Nat => (n : Int)).map V.int)) hl5
      have en : ns' = (List.range bs.length).map fun n : Nat => (n : Int) := by
        refine List.Perm.eq_of_pairwise (le := fun x y : Int => x ≤ y) (fun x y _ _ h h' => by omega) hpw ?_ (hp4.trans hpm)
        rw [List.pairwise_map]
        exact List.pairwise_lt_range.imp fun h => by omega
      subst en
      refine ⟨_, _, list_dp (SqL.of (S5 _ _ hl44)), list_dp (SqL.of upd_same), PySem.W.ke_shaped_ints _, PySem.W.ke_shaped_ints _, _, rfl, iteFb (by rw [list_eqv, decide_eq_true rfl]; rfl) ?_⟩
      exact ⟨Fw.same (S4.trans S5), _, _, _, _, _, _, _, _, _, _, rfl⟩
    refine ⟨_, rfl, _, rfl, _, rfl, _, rfl, p, g2, t0, o, E2, gs, m, bs, st, ℓ, rfl, ⟨B9.R, hb9, hb1, by omega, hsl⟩, hℓ, fun ps R q rs Ha hSv hq0 hrs0 Sa hqa tpa => ?_⟩
    exact ⟨q, rs, ps, R, (R9.new hq0).symm, hSv, ⟨B9.same Sa, Sa _ _ hb9, hqa, tpa, R9.mono Sa⟩, _, _, _, _, _, _, _, _, _, _, rfl⟩
end
end RS
namespace RS
open PySem L2
/-! ### what the top has written -/
theorem all_mk {l : PySem.W.OpenLaw} {w : World} {K : PySem.W.Frag} {h : Heap} {mg : Str → Option Value} {fa : Addr}  (X : K.In h) (G : h.Ns mainGlobals mg) (hfa : mg "law" = some (.ref fa)) (hlong : ∃ t, mg "_LONGEST_GAP" = some (.int 1000000000000 t))
    {fa0 : Addr} {oda0 ana0 : Option Addr} {sla0 : Array (Option Value)} {oca0 kVa0 dca0 pma0 cta0 : Value}
    {cda0 : Value}
    {fa1 : Addr} {oda1 ana1 : Option Addr} {sla1 : Array (Option Value)} {oca1 kVa1 dca1 pma1 cta1 : Value}
    {cda1 : Value}
    {fa2 : Addr} {oda2 ana2 : Option Addr} {sla2 : Array (Option Value)} {oca2 kVa2 dca2 pma2 cta2 : Value}
    {cda2 : Value}
    {fa3 : Addr} {oda3 ana3 : Option Addr} {sla3 : Array (Option Value)} {oca3 kVa3 dca3 pma3 cta3 : Value}
    {cda3 : Value}
    {fa4 : Addr} {oda4 ana4 : Option Addr} {sla4 : Array (Option Value)} {oca4 kVa4 dca4 pma4 cta4 : Value}
    {cda4 : Value}
    {fa5 : Addr} {oda5 ana5 : Option Addr} {sla5 : Array (Option Value)} {oca5 kVa5 dca5 pma5 cta5 : Value}
    {cda5 : Value}
    {fr6 : Addr} {odr6 anr6 : Option Addr} {slr6 : Array (Option Value)} {ocr6 kVr6 dcr6 pmr6 ctr6 : Value}
    {cdr6 : Value}
    {fr8 : Addr} {odr8 anr8 : Option Addr} {slr8 : Array (Option Value)} {ocr8 kVr8 dcr8 pmr8 ctr8 : Value}
    {cdr8 : Value}
    {fr9 : Addr} {odr9 anr9 : Option Addr} {slr9 : Array (Option Value)} {ocr9 kVr9 dcr9 pmr9 ctr9 : Value}
    {cdr9 : Value}
    {fr10 : Addr} {odr10 anr10 : Option Addr} {slr10 : Array (Option Value)} {ocr10 kVr10 dcr10 pmr10 ctr10 : Value}
    {cdr10 : Value}
    {fr12 : Addr} {odr12 anr12 : Option Addr} {slr12 : Array (Option Value)} {ocr12 kVr12 dcr12 pmr12 ctr12 : Value}
    {cdr12 : Value}
    {fr13 : Addr} {odr13 anr13 : Option Addr} {slr13 : Array (Option Value)} {ocr13 kVr13 dcr13 pmr13 ctr13 : Value}
    {cdr13 : Value}
    {fr14 : Addr} {odr14 anr14 : Option Addr} {slr14 : Array (Option Value)} {ocr14 kVr14 dcr14 pmr14 ctr14 : Value}
    {cdr14 : Value}
    {fa16 : Addr} {oda16 ana16 : Option Addr} {sla16 : Array (Option Value)} {oca16 kVa16 dca16 pma16 cta16 : Value}
    {cda16 : Value}
    {fa17 : Addr} {oda17 ana17 : Option Addr} {sla17 : Array (Option Value)} {oca17 kVa17 dca17 pma17 cta17 : Value}
    {cda17 : Value}
    {fa18 : Addr} {oda18 ana18 : Option Addr} {sla18 : Array (Option Value)} {oca18 kVa18 dca18 pma18 cta18 : Value}
    {cda18 : Value}
    {fa19 : Addr} {oda19 ana19 : Option Addr} {sla19 : Array (Option Value)} {oca19 kVa19 dca19 pma19 cta19 : Value}
    {cda19 : Value}
    {fa20 : Addr} {oda20 ana20 : Option Addr} {sla20 : Array (Option Value)} {oca20 kVa20 dca20 pma20 cta20 : Value}
    {cda20 : Value}
    {fa21 : Addr} {oda21 ana21 : Option Addr} {sla21 : Array (Option Value)} {oca21 kVa21 dca21 pma21 cta21 : Value}
    {cda21 : Value}
    {fa22 : Addr} {oda22 ana22 : Option Addr} {sla22 : Array (Option Value)} {oca22 kVa22 dca22 pma22 cta22 : Value}
    {cda22 : Value}
    {fa23 : Addr} {oda23 ana23 : Option Addr} {sla23 : Array (Option Value)} {oca23 kVa23 dca23 pma23 cta23 : Value}
    {cda23 : Value}
    {fa24 : Addr} {oda24 ana24 : Option Addr} {sla24 : Array (Option Value)} {oca24 kVa24 dca24 pma24 cta24 : Value}
    {cda24 : Value}
    {fa25 : Addr} {oda25 ana25 : Option Addr} {sla25 : Array (Option Value)} {oca25 kVa25 dca25 pma25 cta25 : Value}
    {cda25 : Value}
    {fa26 : Addr} {oda26 ana26 : Option Addr} {sla26 : Array (Option Value)} {oca26 kVa26 dca26 pma26 cta26 : Value}
    {cda26 : Value}
    {fa27 : Addr} {oda27 ana27 : Option Addr} {sla27 : Array (Option Value)} {oca27 kVa27 dca27 pma27 cta27 : Value}
    {cda27 : Value}
    {fa28 : Addr} {oda28 ana28 : Option Addr} {sla28 : Array (Option Value)} {oca28 kVa28 dca28 pma28 cta28 : Value}
    {cda28 : Value}
    {fa29 : Addr} {oda29 ana29 : Option Addr} {sla29 : Array (Option Value)} {oca29 kVa29 dca29 pma29 cta29 : Value}
    {cda29 : Value}
    {fa30 : Addr} {oda30 ana30 : Option Addr} {sla30 : Array (Option Value)} {oca30 kVa30 dca30 pma30 cta30 : Value}
    {cda30 : Value}
    {fa31 : Addr} {oda31 ana31 : Option Addr} {sla31 : Array (Option Value)} {oca31 kVa31 dca31 pma31 cta31 : Value}
    {cda31 : Value}
    {fa32 : Addr} {oda32 ana32 : Option Addr} {sla32 : Array (Option Value)} {oca32 kVa32 dca32 pma32 cta32 : Value}
    {cda32 : Value}
    {fl33 : Addr} {odl33 anl33 : Option Addr} {sll33 : Array (Option Value)} {ocl33 kVl33 dcl33 pml33 ctl33 : Value}
    {cdl33 : Value}
    {fl34 : Addr} {odl34 anl34 : Option Addr} {sll34 : Array (Option Value)} {ocl34 kVl34 dcl34 pml34 ctl34 : Value}
    {cdl34 : Value}
    {fl35 : Addr} {odl35 anl35 : Option Addr} {sll35 : Array (Option Value)} {ocl35 kVl35 dcl35 pml35 ctl35 : Value}
    {cdl35 : Value}
    {fl36 : Addr} {odl36 anl36 : Option Addr} {sll36 : Array (Option Value)} {ocl36 kVl36 dcl36 pml36 ctl36 : Value}
    {cdl36 : Value}
    {fl37 : Addr} {odl37 anl37 : Option Addr} {sll37 : Array (Option Value)} {ocl37 kVl37 dcl37 pml37 ctl37 : Value}
    {cdl37 : Value}
    {fa38 : Addr} {oda38 ana38 : Option Addr} {sla38 : Array (Option Value)} {oca38 kVa38 dca38 pma38 cta38 : Value}
    {cda38 : Value}
    {fa39 : Addr} {oda39 ana39 : Option Addr} {sla39 : Array (Option Value)} {oca39 kVa39 dca39 pma39 cta39 : Value}
    {cda39 : Value}
    {fa40 : Addr} {oda40 ana40 : Option Addr} {sla40 : Array (Option Value)} {oca40 kVa40 dca40 pma40 cta40 : Value}
    {cda40 : Value}
    {fa41 : Addr} {oda41 ana41 : Option Addr} {sla41 : Array (Option Value)} {oca41 kVa41 dca41 pma41 cta41 : Value}
    {cda41 : Value}
    {fa42 : Addr} {oda42 ana42 : Option Addr} {sla42 : Array (Option Value)} {oca42 kVa42 dca42 pma42 cta42 : Value}
    {cda42 : Value}
    {fa43 : Addr} {oda43 ana43 : Option Addr} {sla43 : Array (Option Value)} {oca43 kVa43 dca43 pma43 cta43 : Value}
    {cda43 : Value}
    {fa44 : Addr} {oda44 ana44 : Option Addr} {sla44 : Array (Option Value)} {oca44 kVa44 dca44 pma44 cta44 : Value}
    {cda44 : Value}
    {C : Addr}
    {CLp : Addr}
    {tM : Tok}
    {tF : Tok}
    {tL : Tok}
    {tC : Tok}
    (Aa0 : PySem.W.nsIn K mainGlobals "law" = some (some (.ref fa0)))
    (La0 : K.lookup fa0 = some ⟨oca0, oda0, .func (PySem.W.fnOf "law" "law" (defArgs s_law) (defBody s_law) (defScope s_law) .none kVa0 dca0 pma0 ana0 cda0 cta0), sla0⟩) (Ca0 : PySem.W.codeIn K cda0 "law" = true) (Ka0 : PySem.W.keepIn K (.ref fa0) = true)
    (Aa1 : PySem.W.nsIn K mainGlobals "is_integer" = some (some (.ref fa1)))
    (La1 : K.lookup fa1 = some ⟨oca1, oda1, .func (PySem.W.fnOf "is_integer" "is_integer" (defArgs s_is_integer) (defBody s_is_integer) (defScope s_is_integer) .none kVa1 dca1 pma1 ana1 cda1 cta1), sla1⟩) (Ca1 : PySem.W.codeIn K cda1 "is_integer" = true) (Ka1 : PySem.W.keepIn K (.ref fa1) = true)
    (Aa2 : PySem.W.nsIn K mainGlobals "are_gaps" = some (some (.ref fa2)))
    (La2 : K.lookup fa2 = some ⟨oca2, oda2, .func (PySem.W.fnOf "are_gaps" "are_gaps" (defArgs s_are_gaps) (defBody s_are_gaps) (defScope s_are_gaps) .none kVa2 dca2 pma2 ana2 cda2 cta2), sla2⟩) (Ca2 : PySem.W.codeIn K cda2 "are_gaps" = true) (Ka2 : PySem.W.keepIn K (.ref fa2) = true)
    (Aa3 : PySem.W.nsIn K mainGlobals "_is_tail" = some (some (.ref fa3)))
    (La3 : K.lookup fa3 = some ⟨oca3, oda3, .func (PySem.W.fnOf "_is_tail" "_is_tail" (defArgs s_is_tail) (defBody s_is_tail) (defScope s_is_tail) .none kVa3 dca3 pma3 ana3 cda3 cta3), sla3⟩) (Ca3 : PySem.W.codeIn K cda3 "_is_tail" = true) (Ka3 : PySem.W.keepIn K (.ref fa3) = true)
    (Aa4 : PySem.W.nsIn K mainGlobals "sums" = some (some (.ref fa4)))
    (La4 : K.lookup fa4 = some ⟨oca4, oda4, .func (PySem.W.fnOf "sums" "sums" (defArgs s_sums) (defBody s_sums) (defScope s_sums) .none kVa4 dca4 pma4 ana4 cda4 cta4), sla4⟩) (Ca4 : PySem.W.codeIn K cda4 "sums" = true) (Ka4 : PySem.W.keepIn K (.ref fa4) = true)
    (Aa5 : PySem.W.nsIn K mainGlobals "_power" = some (some (.ref fa5)))
    (La5 : K.lookup fa5 = some ⟨oca5, oda5, .func (PySem.W.fnOf "_power" "_power" (defArgs s_power) (defBody s_power) (defScope s_power) .none kVa5 dca5 pma5 ana5 cda5 cta5), sla5⟩) (Ca5 : PySem.W.codeIn K cda5 "_power" = true) (Ka5 : PySem.W.keepIn K (.ref fa5) = true)
    (Ar6 : PySem.W.findIn K (.ref C) "__init__" = some (some (.ref fr6))) (Ir6 : PySem.W.isFn K (.ref fr6) = true)
    (Lr6 : K.lookup fr6 = some ⟨ocr6, odr6, .func (PySem.W.fnOf "__init__" "Rule.__init__" (defArgs s_Rule_ddinitdd) (defBody s_Rule_ddinitdd) (defScope s_Rule_ddinitdd) .none kVr6 dcr6 pmr6 anr6 cdr6 ctr6), slr6⟩) (Cr6 : PySem.W.codeIn K cdr6 "Rule.__init__" = true) (Kr6 : PySem.W.keepIn K (.ref fr6) = true)
    (Ar8 : PySem.W.findIn K (.ref C) "first_repeating" = some (some (.ref fr8))) (Ir8 : PySem.W.isFn K (.ref fr8) = true)
    (Lr8 : K.lookup fr8 = some ⟨ocr8, odr8, .func (PySem.W.fnOf "first_repeating" "Rule.first_repeating" (defArgs s_Rule_first_repeating) (defBody s_Rule_first_repeating) (defScope s_Rule_first_repeating) .none kVr8 dcr8 pmr8 anr8 cdr8 ctr8), slr8⟩) (Cr8 : PySem.W.codeIn K cdr8 "Rule.first_repeating" = true) (Kr8 : PySem.W.keepIn K (.ref fr8) = true)
    (Ar9 : PySem.W.findIn K (.ref C) "period" = some (some (.ref fr9))) (Ir9 : PySem.W.isFn K (.ref fr9) = true)
    (Lr9 : K.lookup fr9 = some ⟨ocr9, odr9, .func (PySem.W.fnOf "period" "Rule.period" (defArgs s_Rule_period) (defBody s_Rule_period) (defScope s_Rule_period) .none kVr9 dcr9 pmr9 anr9 cdr9 ctr9), slr9⟩) (Cr9 : PySem.W.codeIn K cdr9 "Rule.period" = true) (Kr9 : PySem.W.keepIn K (.ref fr9) = true)
    (Ar10 : PySem.W.findIn K (.ref C) "gaps" = some (some (.ref fr10))) (Ir10 : PySem.W.isFn K (.ref fr10) = true)
    (Lr10 : K.lookup fr10 = some ⟨ocr10, odr10, .func (PySem.W.fnOf "gaps" "Rule.gaps" (defArgs s_Rule_gaps) (defBody s_Rule_gaps) (defScope s_Rule_gaps) .none kVr10 dcr10 pmr10 anr10 cdr10 ctr10), slr10⟩) (Cr10 : PySem.W.codeIn K cdr10 "Rule.gaps" = true) (Kr10 : PySem.W.keepIn K (.ref fr10) = true)
    (Ar12 : PySem.W.findIn K (.ref C) "_check_attempt" = some (some (.ref fr12))) (Ir12 : PySem.W.isFn K (.ref fr12) = true)
    (Lr12 : K.lookup fr12 = some ⟨ocr12, odr12, .func (PySem.W.fnOf "_check_attempt" "Rule._check_attempt" (defArgs s_Rule_check_attempt) (defBody s_Rule_check_attempt) (defScope s_Rule_check_attempt) .none kVr12 dcr12 pmr12 anr12 cdr12 ctr12), slr12⟩) (Cr12 : PySem.W.codeIn K cdr12 "Rule._check_attempt" = true) (Kr12 : PySem.W.keepIn K (.ref fr12) = true)
    (Ar13 : PySem.W.findIn K (.ref C) "_offset_of" = some (some (.ref fr13))) (Ir13 : PySem.W.isFn K (.ref fr13) = true)
    (Lr13 : K.lookup fr13 = some ⟨ocr13, odr13, .func (PySem.W.fnOf "_offset_of" "Rule._offset_of" (defArgs s_Rule_offset_of) (defBody s_Rule_offset_of) (defScope s_Rule_offset_of) .none kVr13 dcr13 pmr13 anr13 cdr13 ctr13), slr13⟩) (Cr13 : PySem.W.codeIn K cdr13 "Rule._offset_of" = true) (Kr13 : PySem.W.keepIn K (.ref fr13) = true)
    (Ar14 : PySem.W.findIn K (.ref C) "offset" = some (some (.ref fr14))) (Ir14 : PySem.W.isFn K (.ref fr14) = true)
    (Lr14 : K.lookup fr14 = some ⟨ocr14, odr14, .func (PySem.W.fnOf "offset" "Rule.offset" (defArgs s_Rule_offset) (defBody s_Rule_offset) (defScope s_Rule_offset) .none kVr14 dcr14 pmr14 anr14 cdr14 ctr14), slr14⟩) (Cr14 : PySem.W.codeIn K cdr14 "Rule.offset" = true) (Kr14 : PySem.W.keepIn K (.ref fr14) = true)
    (Aa16 : PySem.W.nsIn K mainGlobals "_law_source_of" = some (some (.ref fa16)))
    (La16 : K.lookup fa16 = some ⟨oca16, oda16, .func (PySem.W.fnOf "_law_source_of" "_law_source_of" (defArgs s_law_source_of) (defBody s_law_source_of) (defScope s_law_source_of) .none kVa16 dca16 pma16 ana16 cda16 cta16), sla16⟩) (Ca16 : PySem.W.codeIn K cda16 "_law_source_of" = true) (Ka16 : PySem.W.keepIn K (.ref fa16) = true)
    (Aa17 : PySem.W.nsIn K mainGlobals "_law_draw" = some (some (.ref fa17)))
    (La17 : K.lookup fa17 = some ⟨oca17, oda17, .func (PySem.W.fnOf "_law_draw" "_law_draw" (defArgs s_law_draw) (defBody s_law_draw) (defScope s_law_draw) .none kVa17 dca17 pma17 ana17 cda17 cta17), sla17⟩) (Ca17 : PySem.W.codeIn K cda17 "_law_draw" = true) (Ka17 : PySem.W.keepIn K (.ref fa17) = true)
    (Aa18 : PySem.W.nsIn K mainGlobals "_law_choice" = some (some (.ref fa18)))
    (La18 : K.lookup fa18 = some ⟨oca18, oda18, .func (PySem.W.fnOf "_law_choice" "_law_choice" (defArgs s_law_choice) (defBody s_law_choice) (defScope s_law_choice) .none kVa18 dca18 pma18 ana18 cda18 cta18), sla18⟩) (Ca18 : PySem.W.codeIn K cda18 "_law_choice" = true) (Ka18 : PySem.W.keepIn K (.ref fa18) = true)
    (Aa19 : PySem.W.nsIn K mainGlobals "_law_cell_at" = some (some (.ref fa19)))
    (La19 : K.lookup fa19 = some ⟨oca19, oda19, .func (PySem.W.fnOf "_law_cell_at" "_law_cell_at" (defArgs s_law_cell_at) (defBody s_law_cell_at) (defScope s_law_cell_at) .none kVa19 dca19 pma19 ana19 cda19 cta19), sla19⟩) (Ca19 : PySem.W.codeIn K cda19 "_law_cell_at" = true) (Ka19 : PySem.W.keepIn K (.ref fa19) = true)
    (Aa20 : PySem.W.nsIn K mainGlobals "check_starts" = some (some (.ref fa20)))
    (La20 : K.lookup fa20 = some ⟨oca20, oda20, .func (PySem.W.fnOf "check_starts" "check_starts" (defArgs s_check_starts) (defBody s_check_starts) (defScope s_check_starts) .none kVa20 dca20 pma20 ana20 cda20 cta20), sla20⟩) (Ca20 : PySem.W.codeIn K cda20 "check_starts" = true) (Ka20 : PySem.W.keepIn K (.ref fa20) = true)
    (Aa21 : PySem.W.nsIn K mainGlobals "listed_offsets" = some (some (.ref fa21)))
    (La21 : K.lookup fa21 = some ⟨oca21, oda21, .func (PySem.W.fnOf "listed_offsets" "listed_offsets" (defArgs s_listed_offsets) (defBody s_listed_offsets) (defScope s_listed_offsets) .none kVa21 dca21 pma21 ana21 cda21 cta21), sla21⟩) (Ca21 : PySem.W.codeIn K cda21 "listed_offsets" = true) (Ka21 : PySem.W.keepIn K (.ref fa21) = true)
    (Aa22 : PySem.W.nsIn K mainGlobals "repeating_offsets" = some (some (.ref fa22)))
    (La22 : K.lookup fa22 = some ⟨oca22, oda22, .func (PySem.W.fnOf "repeating_offsets" "repeating_offsets" (defArgs s_repeating_offsets) (defBody s_repeating_offsets) (defScope s_repeating_offsets) .none kVa22 dca22 pma22 ana22 cda22 cta22), sla22⟩) (Ca22 : PySem.W.codeIn K cda22 "repeating_offsets" = true) (Ka22 : PySem.W.keepIn K (.ref fa22) = true)
    (Aa23 : PySem.W.nsIn K mainGlobals "_residues" = some (some (.ref fa23)))
    (La23 : K.lookup fa23 = some ⟨oca23, oda23, .func (PySem.W.fnOf "_residues" "_residues" (defArgs s_residues) (defBody s_residues) (defScope s_residues) .none kVa23 dca23 pma23 ana23 cda23 cta23), sla23⟩) (Ca23 : PySem.W.codeIn K cda23 "_residues" = true) (Ka23 : PySem.W.keepIn K (.ref fa23) = true)
    (Aa24 : PySem.W.nsIn K mainGlobals "_residue_table" = some (some (.ref fa24)))
    (La24 : K.lookup fa24 = some ⟨oca24, oda24, .func (PySem.W.fnOf "_residue_table" "_residue_table" (defArgs s_residue_table) (defBody s_residue_table) (defScope s_residue_table) .none kVa24 dca24 pma24 ana24 cda24 cta24), sla24⟩) (Ca24 : PySem.W.codeIn K cda24 "_residue_table" = true) (Ka24 : PySem.W.keepIn K (.ref fa24) = true)
    (Aa25 : PySem.W.nsIn K mainGlobals "_greatest_closed" = some (some (.ref fa25)))
    (La25 : K.lookup fa25 = some ⟨oca25, oda25, .func (PySem.W.fnOf "_greatest_closed" "_greatest_closed" (defArgs s_greatest_closed) (defBody s_greatest_closed) (defScope s_greatest_closed) .none kVa25 dca25 pma25 ana25 cda25 cta25), sla25⟩) (Ca25 : PySem.W.codeIn K cda25 "_greatest_closed" = true) (Ka25 : PySem.W.keepIn K (.ref fa25) = true)
    (Aa26 : PySem.W.nsIn K mainGlobals "_partners" = some (some (.ref fa26)))
    (La26 : K.lookup fa26 = some ⟨oca26, oda26, .func (PySem.W.fnOf "_partners" "_partners" (defArgs s_partners) (defBody s_partners) (defScope s_partners) .none kVa26 dca26 pma26 ana26 cda26 cta26), sla26⟩) (Ca26 : PySem.W.codeIn K cda26 "_partners" = true) (Ka26 : PySem.W.keepIn K (.ref fa26) = true)
    (Aa27 : PySem.W.nsIn K mainGlobals "_check_repeating" = some (some (.ref fa27)))
    (La27 : K.lookup fa27 = some ⟨oca27, oda27, .func (PySem.W.fnOf "_check_repeating" "_check_repeating" (defArgs s_check_repeating) (defBody s_check_repeating) (defScope s_check_repeating) .none kVa27 dca27 pma27 ana27 cda27 cta27), sla27⟩) (Ca27 : PySem.W.codeIn K cda27 "_check_repeating" = true) (Ka27 : PySem.W.keepIn K (.ref fa27) = true)
    (Aa28 : PySem.W.nsIn K mainGlobals "_check_clients" = some (some (.ref fa28)))
    (La28 : K.lookup fa28 = some ⟨oca28, oda28, .func (PySem.W.fnOf "_check_clients" "_check_clients" (defArgs s_check_clients) (defBody s_check_clients) (defScope s_check_clients) .none kVa28 dca28 pma28 ana28 cda28 cta28), sla28⟩) (Ca28 : PySem.W.codeIn K cda28 "_check_clients" = true) (Ka28 : PySem.W.keepIn K (.ref fa28) = true)
    (Aa29 : PySem.W.nsIn K mainGlobals "blocked_clients" = some (some (.ref fa29)))
    (La29 : K.lookup fa29 = some ⟨oca29, oda29, .func (PySem.W.fnOf "blocked_clients" "blocked_clients" (defArgs s_blocked_clients) (defBody s_blocked_clients) (defScope s_blocked_clients) .none kVa29 dca29 pma29 ana29 cda29 cta29), sla29⟩) (Ca29 : PySem.W.codeIn K cda29 "blocked_clients" = true) (Ka29 : PySem.W.keepIn K (.ref fa29) = true)
    (Aa30 : PySem.W.nsIn K mainGlobals "_law_repeating" = some (some (.ref fa30)))
    (La30 : K.lookup fa30 = some ⟨oca30, oda30, .func (PySem.W.fnOf "_law_repeating" "_law_repeating" (defArgs s_law_repeating) (defBody s_law_repeating) (defScope s_law_repeating) .none kVa30 dca30 pma30 ana30 cda30 cta30), sla30⟩) (Ca30 : PySem.W.codeIn K cda30 "_law_repeating" = true) (Ka30 : PySem.W.keepIn K (.ref fa30) = true)
    (Aa31 : PySem.W.nsIn K mainGlobals "_law_residues" = some (some (.ref fa31)))
    (La31 : K.lookup fa31 = some ⟨oca31, oda31, .func (PySem.W.fnOf "_law_residues" "_law_residues" (defArgs s_law_residues) (defBody s_law_residues) (defScope s_law_residues) .none kVa31 dca31 pma31 ana31 cda31 cta31), sla31⟩) (Ca31 : PySem.W.codeIn K cda31 "_law_residues" = true) (Ka31 : PySem.W.keepIn K (.ref fa31) = true)
    (Aa32 : PySem.W.nsIn K mainGlobals "_law_starts" = some (some (.ref fa32)))
    (La32 : K.lookup fa32 = some ⟨oca32, oda32, .func (PySem.W.fnOf "_law_starts" "_law_starts" (defArgs s_law_starts) (defBody s_law_starts) (defScope s_law_starts) .none kVa32 dca32 pma32 ana32 cda32 cta32), sla32⟩) (Ca32 : PySem.W.codeIn K cda32 "_law_starts" = true) (Ka32 : PySem.W.keepIn K (.ref fa32) = true)
    (Al33 : PySem.W.findIn K (.ref CLp) "__init__" = some (some (.ref fl33))) (Il33 : PySem.W.isFn K (.ref fl33) = true)
    (Ll33 : K.lookup fl33 = some ⟨ocl33, odl33, .func (PySem.W.fnOf "__init__" "Loop.__init__" (defArgs s_Loop_ddinitdd) (defBody s_Loop_ddinitdd) (defScope s_Loop_ddinitdd) .none kVl33 dcl33 pml33 anl33 cdl33 ctl33), sll33⟩) (Cl33 : PySem.W.codeIn K cdl33 "Loop.__init__" = true) (Kl33 : PySem.W.keepIn K (.ref fl33) = true)
    (Al34 : PySem.W.findIn K (.ref CLp) "enter" = some (some (.ref fl34))) (Il34 : PySem.W.isFn K (.ref fl34) = true)
    (Ll34 : K.lookup fl34 = some ⟨ocl34, odl34, .func (PySem.W.fnOf "enter" "Loop.enter" (defArgs s_Loop_enter) (defBody s_Loop_enter) (defScope s_Loop_enter) .none kVl34 dcl34 pml34 anl34 cdl34 ctl34), sll34⟩) (Cl34 : PySem.W.codeIn K cdl34 "Loop.enter" = true) (Kl34 : PySem.W.keepIn K (.ref fl34) = true)
    (Al35 : PySem.W.findIn K (.ref CLp) "leave" = some (some (.ref fl35))) (Il35 : PySem.W.isFn K (.ref fl35) = true)
    (Ll35 : K.lookup fl35 = some ⟨ocl35, odl35, .func (PySem.W.fnOf "leave" "Loop.leave" (defArgs s_Loop_leave) (defBody s_Loop_leave) (defScope s_Loop_leave) .none kVl35 dcl35 pml35 anl35 cdl35 ctl35), sll35⟩) (Cl35 : PySem.W.codeIn K cdl35 "Loop.leave" = true) (Kl35 : PySem.W.keepIn K (.ref fl35) = true)
    (Al36 : PySem.W.findIn K (.ref CLp) "clients_in" = some (some (.ref fl36))) (Il36 : PySem.W.isFn K (.ref fl36) = true)
    (Ll36 : K.lookup fl36 = some ⟨ocl36, odl36, .func (PySem.W.fnOf "clients_in" "Loop.clients_in" (defArgs s_Loop_clients_in) (defBody s_Loop_clients_in) (defScope s_Loop_clients_in) .none kVl36 dcl36 pml36 anl36 cdl36 ctl36), sll36⟩) (Cl36 : PySem.W.codeIn K cdl36 "Loop.clients_in" = true) (Kl36 : PySem.W.keepIn K (.ref fl36) = true)
    (Al37 : PySem.W.findIn K (.ref CLp) "lone_from" = some (some (.ref fl37))) (Il37 : PySem.W.isFn K (.ref fl37) = true)
    (Ll37 : K.lookup fl37 = some ⟨ocl37, odl37, .func (PySem.W.fnOf "lone_from" "Loop.lone_from" (defArgs s_Loop_lone_from) (defBody s_Loop_lone_from) (defScope s_Loop_lone_from) .none kVl37 dcl37 pml37 anl37 cdl37 ctl37), sll37⟩) (Cl37 : PySem.W.codeIn K cdl37 "Loop.lone_from" = true) (Kl37 : PySem.W.keepIn K (.ref fl37) = true)
    (Aa38 : PySem.W.nsIn K mainGlobals "check_slot" = some (some (.ref fa38)))
    (La38 : K.lookup fa38 = some ⟨oca38, oda38, .func (PySem.W.fnOf "check_slot" "check_slot" (defArgs s_check_slot) (defBody s_check_slot) (defScope s_check_slot) .none kVa38 dca38 pma38 ana38 cda38 cta38), sla38⟩) (Ca38 : PySem.W.codeIn K cda38 "check_slot" = true) (Ka38 : PySem.W.keepIn K (.ref fa38) = true)
    (Aa39 : PySem.W.nsIn K mainGlobals "check_bound" = some (some (.ref fa39)))
    (La39 : K.lookup fa39 = some ⟨oca39, oda39, .func (PySem.W.fnOf "check_bound" "check_bound" (defArgs s_check_bound) (defBody s_check_bound) (defScope s_check_bound) .none kVa39 dca39 pma39 ana39 cda39 cta39), sla39⟩) (Ca39 : PySem.W.codeIn K cda39 "check_bound" = true) (Ka39 : PySem.W.keepIn K (.ref fa39) = true)
    (Aa40 : PySem.W.nsIn K mainGlobals "_check_repeated" = some (some (.ref fa40)))
    (La40 : K.lookup fa40 = some ⟨oca40, oda40, .func (PySem.W.fnOf "_check_repeated" "_check_repeated" (defArgs s_check_repeated) (defBody s_check_repeated) (defScope s_check_repeated) .none kVa40 dca40 pma40 ana40 cda40 cta40), sla40⟩) (Ca40 : PySem.W.codeIn K cda40 "_check_repeated" = true) (Ka40 : PySem.W.keepIn K (.ref fa40) = true)
    (Aa41 : PySem.W.nsIn K mainGlobals "_filled_loop" = some (some (.ref fa41)))
    (La41 : K.lookup fa41 = some ⟨oca41, oda41, .func (PySem.W.fnOf "_filled_loop" "_filled_loop" (defArgs s_filled_loop) (defBody s_filled_loop) (defScope s_filled_loop) .none kVa41 dca41 pma41 ana41 cda41 cta41), sla41⟩) (Ca41 : PySem.W.codeIn K cda41 "_filled_loop" = true) (Ka41 : PySem.W.keepIn K (.ref fa41) = true)
    (Aa42 : PySem.W.nsIn K mainGlobals "service_order" = some (some (.ref fa42)))
    (La42 : K.lookup fa42 = some ⟨oca42, oda42, .func (PySem.W.fnOf "service_order" "service_order" (defArgs s_service_order) (defBody s_service_order) (defScope s_service_order) .none kVa42 dca42 pma42 ana42 cda42 cta42), sla42⟩) (Ca42 : PySem.W.codeIn K cda42 "service_order" = true) (Ka42 : PySem.W.keepIn K (.ref fa42) = true)
    (Aa43 : PySem.W.nsIn K mainGlobals "_law_first" = some (some (.ref fa43)))
    (La43 : K.lookup fa43 = some ⟨oca43, oda43, .func (PySem.W.fnOf "_law_first" "_law_first" (defArgs s_law_first) (defBody s_law_first) (defScope s_law_first) .none kVa43 dca43 pma43 ana43 cda43 cta43), sla43⟩) (Ca43 : PySem.W.codeIn K cda43 "_law_first" = true) (Ka43 : PySem.W.keepIn K (.ref fa43) = true)
    (Aa44 : PySem.W.nsIn K mainGlobals "_law_order_right" = some (some (.ref fa44)))
    (La44 : K.lookup fa44 = some ⟨oca44, oda44, .func (PySem.W.fnOf "_law_order_right" "_law_order_right" (defArgs s_law_order_right) (defBody s_law_order_right) (defScope s_law_order_right) .none kVa44 dca44 pma44 ana44 cda44 cta44), sla44⟩) (Ca44 : PySem.W.codeIn K cda44 "_law_order_right" = true) (Ka44 : PySem.W.keepIn K (.ref fa44) = true)
    (aC : PySem.W.nsIn K mainGlobals "Rule" = some (some (.ref C)))
    (pg : PySem.W.plainGet K C Str.empty = true)
    (hd : PySem.W.hasDictIn K C = true)
    (po : PySem.W.plainOver K C = true)
    (sa : PySem.W.findIn K (.ref C) "__setattr__" = some (some (.builtin "object.__setattr__")))
    (mk : PySem.W.makesIn K C = true)
    (kc : PySem.W.keepIn K (.ref C) = true)
    (n0 : PySem.W.findIn K (.ref C) "_gaps" = some none)
    (n1 : PySem.W.findIn K (.ref C) "_tail" = some none)
    (n2 : PySem.W.findIn K (.ref C) "_offsets" = some none)
    (aC_p : PySem.W.nsIn K mainGlobals "Loop" = some (some (.ref CLp)))
    (pg_p : PySem.W.plainGet K CLp Str.empty = true)
    (hd_p : PySem.W.hasDictIn K CLp = true)
    (po_p : PySem.W.plainOver K CLp = true)
    (sa_p : PySem.W.findIn K (.ref CLp) "__setattr__" = some (some (.builtin "object.__setattr__")))
    (mk_p : PySem.W.makesIn K CLp = true)
    (kc_p : PySem.W.keepIn K (.ref CLp) = true)
    (n0_p : PySem.W.findIn K (.ref CLp) "_period" = some none)
    (n1_p : PySem.W.findIn K (.ref CLp) "_first" = some none)
    (n2_p : PySem.W.findIn K (.ref CLp) "_offsets" = some none)
    (n3_p : PySem.W.findIn K (.ref CLp) "_clients" = some none)
    (n4_p : PySem.W.findIn K (.ref CLp) "_lone" = some none)
    (n5_p : PySem.W.findIn K (.ref CLp) "_changed" = some none)
    (z_len : PySem.W.nsIn K mainGlobals "len" = some none)
    (z_isinstance : PySem.W.nsIn K mainGlobals "isinstance" = some none)
    (z_int : PySem.W.nsIn K mainGlobals "int" = some none)
    (z_bool : PySem.W.nsIn K mainGlobals "bool" = some none)
    (z_list : PySem.W.nsIn K mainGlobals "list" = some none)
    (z_tuple : PySem.W.nsIn K mainGlobals "tuple" = some none)
    (z_str : PySem.W.nsIn K mainGlobals "str" = some none)
    (z_all : PySem.W.nsIn K mainGlobals "all" = some none)
    (z_range : PySem.W.nsIn K mainGlobals "range" = some none)
    (z_divmod : PySem.W.nsIn K mainGlobals "divmod" = some none)
    (z_sum : PySem.W.nsIn K mainGlobals "sum" = some none)
    (z_max : PySem.W.nsIn K mainGlobals "max" = some none)
    (z_min : PySem.W.nsIn K mainGlobals "min" = some none)
    (z_sorted : PySem.W.nsIn K mainGlobals "sorted" = some none)
    (z_set : PySem.W.nsIn K mainGlobals "set" = some none)
    (z_any : PySem.W.nsIn K mainGlobals "any" = some none)
    (z_enumerate : PySem.W.nsIn K mainGlobals "enumerate" = some none)
    (c_tM : PySem.W.nsIn K mainGlobals "_MOST_GAPS" = some (some (.int 20 tM)))
    (c_tF : PySem.W.nsIn K mainGlobals "_GREATEST_FACTOR" = some (some (.int 1000 tF)))
    (c_tL : PySem.W.nsIn K mainGlobals "LAST_GROWING" = some (some (.int 1000 tL)))
    (c_tC : PySem.W.nsIn K mainGlobals "MOST_CLIENTS" = some (some (.int 40 tC))) :
    ∃ fd : FuncData, (∀ (s : Shared) (v : Value), BindsTo s fd ⟨[v], []⟩ [("_law_script", v)]) ∧ ∀ base : Heap, K.In base → base.Ns mainGlobals mg → FnOk l.prog w K mg base CX0 8 fa fd ["_law_script"] (spLaw K) := by
  have e := hfa.symm.trans (PySem.W.mg_of X G Aa0)
  cases e
  have T : Txt K mg C := ⟨⟨pg, hd, po, sa⟩, n0, n1, n2, PySem.W.mg_of X G aC, PySem.W.mg_none_of X G z_len, PySem.W.mg_none_of X G z_isinstance, PySem.W.mg_none_of X G z_int, PySem.W.mg_none_of X G z_bool, PySem.W.mg_none_of X G z_list, PySem.W.mg_none_of X G z_tuple, PySem.W.mg_none_of X G z_str, PySem.W.mg_none_of X G z_all, PySem.W.mg_none_of X G z_range, PySem.W.mg_none_of X G z_divmod, PySem.W.mg_none_of X G z_sum, PySem.W.mg_none_of X G z_max, PySem.W.mg_none_of X G z_min, PySem.W.mg_none_of X G z_sorted, PySem.W.mg_none_of X G z_set, PySem.W.mg_none_of X G z_any, PySem.W.mg_none_of X G z_enumerate, ⟨tM, PySem.W.mg_of X G c_tM⟩, hlong, ⟨tF, PySem.W.mg_of X G c_tF⟩, ⟨tL, PySem.W.mg_of X G c_tL⟩⟩
  have M : Mk K C fr6 := ⟨mk, Ar6, Ir6, kc⟩
  have M_p : Mk K CLp fl33 := ⟨mk_p, Al33, Il33, kc_p⟩
  have TP := (⟨⟨pg_p, hd_p, po_p, sa_p⟩, n0_p, n1_p, n2_p, n3_p, n4_p, n5_p, PySem.W.mg_of X G aC_p⟩ : TxtP K mg CLp)
  have Fa0 := fun_mk (st := s_law) La0 Ca0 Ka0
  have Fa1 := fun_mk (st := s_is_integer) La1 Ca1 Ka1
  have Fa2 := fun_mk (st := s_are_gaps) La2 Ca2 Ka2
  have Fa3 := fun_mk (st := s_is_tail) La3 Ca3 Ka3
  have Fa4 := fun_mk (st := s_sums) La4 Ca4 Ka4
  have Fa5 := fun_mk (st := s_power) La5 Ca5 Ka5
  have Fr6 := fun_mk (st := s_Rule_ddinitdd) Lr6 Cr6 Kr6
  have Fr8 := fun_mk (st := s_Rule_first_repeating) Lr8 Cr8 Kr8
  have Fr9 := fun_mk (st := s_Rule_period) Lr9 Cr9 Kr9
  have Fr10 := fun_mk (st := s_Rule_gaps) Lr10 Cr10 Kr10
  have Fr12 := fun_mk (st := s_Rule_check_attempt) Lr12 Cr12 Kr12
  have Fr13 := fun_mk (st := s_Rule_offset_of) Lr13 Cr13 Kr13
  have Fr14 := fun_mk (st := s_Rule_offset) Lr14 Cr14 Kr14
  have Fa16 := fun_mk (st := s_law_source_of) La16 Ca16 Ka16
  have Fa17 := fun_mk (st := s_law_draw) La17 Ca17 Ka17
  have Fa18 := fun_mk (st := s_law_choice) La18 Ca18 Ka18
  have Fa19 := fun_mk (st := s_law_cell_at) La19 Ca19 Ka19
  have Fa20 := fun_mk (st := s_check_starts) La20 Ca20 Ka20
  have Fa21 := fun_mk (st := s_listed_offsets) La21 Ca21 Ka21
  have Fa22 := fun_mk (st := s_repeating_offsets) La22 Ca22 Ka22
  have Fa23 := fun_mk (st := s_residues) La23 Ca23 Ka23
  have Fa24 := fun_mk (st := s_residue_table) La24 Ca24 Ka24
  have Fa25 := fun_mk (st := s_greatest_closed) La25 Ca25 Ka25
  have Fa26 := fun_mk (st := s_partners) La26 Ca26 Ka26
  have Fa27 := fun_mk (st := s_check_repeating) La27 Ca27 Ka27
  have Fa28 := fun_mk (st := s_check_clients) La28 Ca28 Ka28
  have Fa29 := fun_mk (st := s_blocked_clients) La29 Ca29 Ka29
  have Fa30 := fun_mk (st := s_law_repeating) La30 Ca30 Ka30
  have Fa31 := fun_mk (st := s_law_residues) La31 Ca31 Ka31
  have Fa32 := fun_mk (st := s_law_starts) La32 Ca32 Ka32
  have Fl33 := fun_mk (st := s_Loop_ddinitdd) Ll33 Cl33 Kl33
  have Fl34 := fun_mk (st := s_Loop_enter) Ll34 Cl34 Kl34
  have Fl35 := fun_mk (st := s_Loop_leave) Ll35 Cl35 Kl35
  have Fl36 := fun_mk (st := s_Loop_clients_in) Ll36 Cl36 Kl36
  have Fl37 := fun_mk (st := s_Loop_lone_from) Ll37 Cl37 Kl37
  have Fa38 := fun_mk (st := s_check_slot) La38 Ca38 Ka38
  have Fa39 := fun_mk (st := s_check_bound) La39 Ca39 Ka39
  have Fa40 := fun_mk (st := s_check_repeated) La40 Ca40 Ka40
  have Fa41 := fun_mk (st := s_filled_loop) La41 Ca41 Ka41
  have Fa42 := fun_mk (st := s_service_order) La42 Ca42 Ka42
  have Fa43 := fun_mk (st := s_law_first) La43 Ca43 Ka43
  have Fa44 := fun_mk (st := s_law_order_right) La44 Ca44 Ka44
  have ba1 := Fa1.binds (ps := ["value"]) fun _ _ _ _ _ _ us hl => match us, hl with | [_], _ => rfl
  have ga1 := PySem.W.mg_of X G Aa1
  have ba2 := Fa2.binds (ps := ["value", "most"]) fun _ _ _ _ _ _ us hl => match us, hl with | [_, _], _ => rfl
  have ga2 := PySem.W.mg_of X G Aa2
  have ba3 := Fa3.binds (ps := ["value", "many"]) fun _ _ _ _ _ _ us hl => match us, hl with | [_, _], _ => rfl
  have ga3 := PySem.W.mg_of X G Aa3
  have ba4 := Fa4.binds (ps := ["gaps"]) fun _ _ _ _ _ _ us hl => match us, hl with | [_], _ => rfl
  have ga4 := PySem.W.mg_of X G Aa4
  have ba5 := Fa5.binds (ps := ["base", "exponent"]) fun _ _ _ _ _ _ us hl => match us, hl with | [_, _], _ => rfl
  have ga5 := PySem.W.mg_of X G Aa5
  have br6 := Fr6.binds (ps := ["self", "gaps", "tail"]) fun _ _ _ _ _ _ us hl => match us, hl with | [_, _, _], _ => rfl
  have er6 : Meth K C "__init__" fr6 := ⟨Ar6, Ir6, Kr6⟩
  have br8 := Fr8.binds (ps := ["self"]) fun _ _ _ _ _ _ us hl => match us, hl with | [_], _ => rfl
  have er8 : Meth K C "first_repeating" fr8 := ⟨Ar8, Ir8, Kr8⟩
  have br9 := Fr9.binds (ps := ["self"]) fun _ _ _ _ _ _ us hl => match us, hl with | [_], _ => rfl
  have er9 : Meth K C "period" fr9 := ⟨Ar9, Ir9, Kr9⟩
  have br10 := Fr10.binds (ps := ["self"]) fun _ _ _ _ _ _ us hl => match us, hl with | [_], _ => rfl
  have er10 : Meth K C "gaps" fr10 := ⟨Ar10, Ir10, Kr10⟩
  have br12 := Fr12.binds (ps := ["self", "attempt"]) fun _ _ _ _ _ _ us hl => match us, hl with | [_, _], _ => rfl
  have er12 : Meth K C "_check_attempt" fr12 := ⟨Ar12, Ir12, Kr12⟩
  have br13 := Fr13.binds (ps := ["self", "attempt"]) fun _ _ _ _ _ _ us hl => match us, hl with | [_, _], _ => rfl
  have er13 : Meth K C "_offset_of" fr13 := ⟨Ar13, Ir13, Kr13⟩
  have br14 := Fr14.binds (ps := ["self", "attempt"]) fun _ _ _ _ _ _ us hl => match us, hl with | [_, _], _ => rfl
  have er14 : Meth K C "offset" fr14 := ⟨Ar14, Ir14, Kr14⟩
  have ba16 := Fa16.binds (ps := ["_law_cell"]) fun _ _ _ _ _ _ us hl => match us, hl with | [_], _ => rfl
  have ga16 := PySem.W.mg_of X G Aa16
  have ba17 := Fa17.binds (ps := ["_law_source", "_law_bound"]) fun _ _ _ _ _ _ us hl => match us, hl with | [_, _], _ => rfl
  have ga17 := PySem.W.mg_of X G Aa17
  have ba18 := Fa18.binds (ps := ["_law_source", "_law_options"]) fun _ _ _ _ _ _ us hl => match us, hl with | [_, _], _ => rfl
  have ga18 := PySem.W.mg_of X G Aa18
  have ba19 := Fa19.binds (ps := ["_law_script", "_law_index"]) fun _ _ _ _ _ _ us hl => match us, hl with | [_, _], _ => rfl
  have ga19 := PySem.W.mg_of X G Aa19
  have ba20 := Fa20.binds (ps := ["value", "fewest"]) fun _ _ _ _ _ _ us hl => match us, hl with | [_, _], _ => rfl
  have ga20 := PySem.W.mg_of X G Aa20
  have ba21 := Fa21.binds (ps := ["rule"]) fun _ _ _ _ _ _ us hl => match us, hl with | [_], _ => rfl
  have ga21 := PySem.W.mg_of X G Aa21
  have ba22 := Fa22.binds (ps := ["rule"]) fun _ _ _ _ _ _ us hl => match us, hl with | [_], _ => rfl
  have ga22 := PySem.W.mg_of X G Aa22
  have ba23 := Fa23.binds (ps := ["rule", "start"]) fun _ _ _ _ _ _ us hl => match us, hl with | [_, _], _ => rfl
  have ga23 := PySem.W.mg_of X G Aa23
  have ba24 := Fa24.binds (ps := ["rule", "starts"]) fun _ _ _ _ _ _ us hl => match us, hl with | [_, _], _ => rfl
  have ga24 := PySem.W.mg_of X G Aa24
  have ba25 := Fa25.binds (ps := ["table", "clients"]) fun _ _ _ _ _ _ us hl => match us, hl with | [_, _], _ => rfl
  have ga25 := PySem.W.mg_of X G Aa25
  have ba26 := Fa26.binds (ps := ["table", "client", "clients"]) fun _ _ _ _ _ _ us hl => match us, hl with | [_, _, _], _ => rfl
  have ga26 := PySem.W.mg_of X G Aa26
  have ba27 := Fa27.binds (ps := ["rule"]) fun _ _ _ _ _ _ us hl => match us, hl with | [_], _ => rfl
  have ga27 := PySem.W.mg_of X G Aa27
  have ba28 := Fa28.binds (ps := ["rule", "starts"]) fun _ _ _ _ _ _ us hl => match us, hl with | [_, _], _ => rfl
  have ga28 := PySem.W.mg_of X G Aa28
  have ba29 := Fa29.binds (ps := ["rule", "starts"]) fun _ _ _ _ _ _ us hl => match us, hl with | [_, _], _ => rfl
  have ga29 := PySem.W.mg_of X G Aa29
  have ba30 := Fa30.binds (ps := ["_law_source"]) fun _ _ _ _ _ _ us hl => match us, hl with | [_], _ => rfl
  have ga30 := PySem.W.mg_of X G Aa30
  have ba31 := Fa31.binds (ps := ["_law_gaps", "_law_count", "_law_start"]) fun _ _ _ _ _ _ us hl => match us, hl with | [_, _, _], _ => rfl
  have ga31 := PySem.W.mg_of X G Aa31
  have ba32 := Fa32.binds (ps := ["_law_source", "_law_gaps", "_law_count", "_law_most"]) fun _ _ _ _ _ _ us hl => match us, hl with | [_, _, _, _], _ => rfl
  have ga32 := PySem.W.mg_of X G Aa32
  have bl33 := Fl33.binds (ps := ["self", "rule"]) fun _ _ _ _ _ _ us hl => match us, hl with | [_, _], _ => rfl
  have el33 : Meth K CLp "__init__" fl33 := ⟨Al33, Il33, Kl33⟩
  have bl34 := Fl34.binds (ps := ["self", "client", "start"]) fun _ _ _ _ _ _ us hl => match us, hl with | [_, _, _], _ => rfl
  have el34 : Meth K CLp "enter" fl34 := ⟨Al34, Il34, Kl34⟩
  have bl35 := Fl35.binds (ps := ["self", "client"]) fun _ _ _ _ _ _ us hl => match us, hl with | [_, _], _ => rfl
  have el35 : Meth K CLp "leave" fl35 := ⟨Al35, Il35, Kl35⟩
  have bl36 := Fl36.binds (ps := ["self", "slot"]) fun _ _ _ _ _ _ us hl => match us, hl with | [_, _], _ => rfl
  have el36 : Meth K CLp "clients_in" fl36 := ⟨Al36, Il36, Kl36⟩
  have bl37 := Fl37.binds (ps := ["self", "slot"]) fun _ _ _ _ _ _ us hl => match us, hl with | [_, _], _ => rfl
  have el37 : Meth K CLp "lone_from" fl37 := ⟨Al37, Il37, Kl37⟩
  have ba38 := Fa38.binds (ps := ["slot"]) fun _ _ _ _ _ _ us hl => match us, hl with | [_], _ => rfl
  have ga38 := PySem.W.mg_of X G Aa38
  have ba39 := Fa39.binds (ps := ["part", "value", "low", "high"]) fun _ _ _ _ _ _ us hl => match us, hl with | [_, _, _, _], _ => rfl
  have ga39 := PySem.W.mg_of X G Aa39
  have ba40 := Fa40.binds (ps := ["rule", "starts", "slot"]) fun _ _ _ _ _ _ us hl => match us, hl with | [_, _, _], _ => rfl
  have ga40 := PySem.W.mg_of X G Aa40
  have ba41 := Fa41.binds (ps := ["rule", "starts"]) fun _ _ _ _ _ _ us hl => match us, hl with | [_, _], _ => rfl
  have ga41 := PySem.W.mg_of X G Aa41
  have ba42 := Fa42.binds (ps := ["rule", "starts", "slot", "length"]) fun _ _ _ _ _ _ us hl => match us, hl with | [_, _, _, _], _ => rfl
  have ga42 := PySem.W.mg_of X G Aa42
  have ba43 := Fa43.binds (ps := ["_law_rows", "_law_period", "_law_left", "_law_slot"]) fun _ _ _ _ _ _ us hl => match us, hl with | [_, _, _, _], _ => rfl
  have ga43 := PySem.W.mg_of X G Aa43
  have ba44 := Fa44.binds (ps := ["_law_gaps", "_law_count", "_law_starts_here", "_law_slot", "_law_length", "_law_told"]) fun _ _ _ _ _ _ us hl => match us, hl with | [_, _, _, _, _, _], _ => rfl
  have ga44 := PySem.W.mg_of X G Aa44

  refine ⟨PySem.W.fnOf "law" "law" (defArgs s_law) (defBody s_law) (defScope s_law) .none kVa0 dca0 pma0 ana0 cda0 cta0, fun s v => .of_eq rfl, fun base _ _ => ?_⟩
  have G0 := ok_isInt (mg := mg) (P := l.prog) (w := w) (base := base) Fa1 T
  have G6 := ok_sums (mg := mg) (P := l.prog) (w := w) (base := base) Fa4
  have G10 := ok_init (mg := mg) (P := l.prog) (w := w) (base := base) Fr6 T Fa1 ba1 ga1 Fa2 ba2 ga2 Fa3 ba3 ga3 Fa4 ba4 ga4
  have G16 := ok_fr (mg := mg) (P := l.prog) (w := w) (base := base) Fr8 T
  have G18 := ok_per (mg := mg) (P := l.prog) (w := w) (base := base) Fr9 T Fr8 br8 er8
  have G20 := ok_gaps (mg := mg) (P := l.prog) (w := w) (base := base) Fr10 T
  have G24 := ok_check (mg := mg) (P := l.prog) (w := w) (base := base) Fr12 T Fa1 ba1 ga1
  have G26 := ok_off (mg := mg) (P := l.prog) (w := w) (base := base) Fr13 T Fr8 br8 er8 Fr9 br9 er9 Fa5 ba5 ga5
  have G28 := ok_offset (mg := mg) (P := l.prog) (w := w) (base := base) Fr14 T er12 br12 er13 br13 G24 G26
  have G32 := ok_srcOf (mg := mg) (P := l.prog) (w := w) (base := base) Fa16 T
  have G34 := ok_next (mg := mg) (P := l.prog) (w := w) (base := base) Fa17 T
  have G36 := ok_one (mg := mg) (P := l.prog) (w := w) (base := base) Fa18 T Fa17 ba17 ga17
  have G38 := ok_cell (mg := mg) (P := l.prog) (w := w) (base := base) Fa19 T
  have G40 := ok_chS (mg := mg) (P := l.prog) (w := w) (base := base) Fa20 T ⟨tC, PySem.W.mg_of X G c_tC⟩ G0 ba1 ga1 Ka1
  have G42 := ok_lo (mg := mg) (P := l.prog) (w := w) (base := base) Fa21 T G6 ba4 ga4 Ka4 G20 br10 er10
  have G44 := ok_ro (mg := mg) (P := l.prog) (w := w) (base := base) Fa22 T G42 ba21 ga21 Ka21 G16 br8 er8
  have G46 := ok_res (mg := mg) (P := l.prog) (w := w) (base := base) Fa23 T G44 ba22 ga22 Ka22 G18 br9 er9
  have G48 := ok_tab (mg := mg) (P := l.prog) (w := w) (base := base) Fa24 T G46 ba23 ga23 Ka23
  have G50 := ok_gc (mg := mg) (P := l.prog) (w := w) (base := base) Fa25 T
  have G52 := ok_part (mg := mg) (P := l.prog) (w := w) (base := base) Fa26 T
  have G54 := ok_ckR (mg := mg) (P := l.prog) (w := w) (base := base) Fa27 T G16 br8 er8
  have G56 := ok_ckL (mg := mg) (P := l.prog) (w := w) (base := base) Fa28 T G54 ba27 ga27 Ka27 G40 ba20 ga20 Ka20
  have G58 := ok_blk (mg := mg) (P := l.prog) (w := w) (base := base) Fa29 T G56 ba28 ga28 Ka28 G48 ba24 ga24 Ka24 G50 ba25 ga25 Ka25 G52 ba26 ga26 Ka26
  have G60 := ok_rep (mg := mg) (P := l.prog) (w := w) (base := base) Fa30 T G34 ba17 ga17 Ka17 G36 ba18 ga18 Ka18
  have G62 := ok_lres (mg := mg) (P := l.prog) (w := w) (base := base) Fa31 T
  have G64 := ok_sts (mg := mg) (P := l.prog) (w := w) (base := base) Fa32 T G34 ba17 ga17 Ka17 G36 ba18 ga18 Ka18 G62 ba31 ga31 Ka31
  have G66 := ok_lp (mg := mg) (P := l.prog) (w := w) (base := base) Fl33 T TP G18 br9 er9 G16 br8 er8 G44 ba22 ga22 Ka22
  have G68 := ok_en (mg := mg) (P := l.prog) (w := w) (base := base) Fl34 T TP
  have G70 := ok_lv (mg := mg) (P := l.prog) (w := w) (base := base) Fl35 T TP
  have G72 := ok_ci (mg := mg) (P := l.prog) (w := w) (base := base) Fl36 T TP
  have G74 := ok_lf (mg := mg) (P := l.prog) (w := w) (base := base) Fl37 T TP (PySem.W.mg_none_of X G z_min)
  have G76 := ok_ckSA (mg := mg) (P := l.prog) (w := w) (base := base) Fa38 T G0 ba1 ga1 Ka1
  have G78 := ok_cb (mg := mg) (P := l.prog) (w := w) (base := base) Fa39 T G0 ba1 ga1 Ka1
  have G80 := ok_ckP (mg := mg) (P := l.prog) (w := w) (base := base) Fa40 T G76 ba38 ga38 Ka38 G28 br14 er14 G16 br8 er8
  have G82 := ok_fl (mg := mg) (P := l.prog) (w := w) (base := base) Fa41 T TP M_p G66 bl33 G68 bl34 el34
  have G84 := ok_so (mg := mg) (P := l.prog) (w := w) (base := base) Fa42 T TP G56 ba28 ga28 Ka28 G80 ba40 ga40 Ka40 G78 ba39 ga39 Ka39 G82 ba41 ga41 Ka41 G74 bl37 el37 G72 bl36 el36 G70 bl35 el35
  have G86 := ok_fi (mg := mg) (P := l.prog) (w := w) (base := base) Fa43 T
  have G88 := ok_ot (mg := mg) (P := l.prog) (w := w) (base := base) Fa44 T G62 ba31 ga31 Ka31 G86 ba43 ga43 Ka43
  exact ok_law (P := l.prog) (w := w) (base := base) Fa0 T M G10 br6 G18 br9 er9 G38 ba19 ga19 Ka19 G32 ba16 ga16 Ka16 G34 ba17 ga17 Ka17 G36 ba18 ga18 Ka18 G60 ba30 ga30 Ka30 G64 ba32 ga32 Ka32 G88 ba44 ga44 Ka44 G84 ba42 ga42 Ka42 G58 ba29 ga29 Ka29
/-- the end of the walk, with what the top left loose -/
theorem walk_x {l : PySem.W.OpenLaw} {q : Program} {loose : List Str} {XP : (Str → Option Value) → Heap → Prop} {YP : World → Heap → Prop} {d : DefRec} {K : Params → PySem.W.Frag} (hn : l.most = some 63) (hdf : d.params.defaults = [])
    (hY : ∀ (w : World) (h : Heap), YP w h → (K w.params).In h)
    (F : ∀ (w : World) (mg : Str → Option Value) (fa : Addr) (h : Heap), (K w.params).In h → h.Ns mainGlobals mg → mg d.name = some (.ref fa) → XP mg h →
      ∃ fd : FuncData, (∀ (s : Shared) (u : Value), BindsTo s fd ⟨[u], []⟩ [("_law_script", u)]) ∧ ∀ base : Heap, (K w.params).In base → base.Ns mainGlobals mg → FnOk l.prog w (K w.params) mg base CX0 8 fa fd ["_law_script"] (spLaw (K w.params))) :
    PySem.W.WalkO q loose XP YP l.row.toRowW d [] (fun f vs => PySem.call f vs) := by
  refine Att.attach_call hn hdf ?_
  intro w _ s1 mg _ fa _ _ _ _ a vs ns G Y _ _ _ hmg hobj hints hlen hg
  obtain ⟨fd, hb, hF⟩ := F w mg fa _ (hY w _ Y) G.T.g hmg G.X
  refine law_call (hY w _ Y) G.T.g G.T.b G.T.builtins G.T.nolimit hg hobj hints ?_ ?_ hF hb ?_ ?_
  · exact Nat.le_trans hlen (by decide)
  · exact ⟨rfl, by decide, by decide⟩
  · exact fun H _ hS => ⟨a, ns, rfl, hS, hlen, fun _ => rfl⟩
  · exact fun H e s' z => z
theorem long_of {p : Program} {mg : Str → Option Value} {h : Heap} (x : PySem.W.XL p [("_LONGEST_GAP", .int 1000000000000)] mg h) : ∃ t, mg "_LONGEST_GAP" = some (.int 1000000000000 t) := by
  obtain ⟨v, e, r⟩ := x.2.val _ (List.mem_singleton.mpr rfl)
  cases r
  exact ⟨_, e⟩
end RS
open PySem PySem.W PyProof.Rows
set_option maxRecDepth 100000 in
set_option maxHeartbeats 0 in
theorem PySem.Challenge.cw_retryslots_k71_whole_services_far_away_holds : PySem.Challenge.rw_retryslots_k71_whole_services_far_away.Holds := by
  w_on; o_law; k_head; (case hw => w_witness2)
  k_fill
  refine RS.walk_x (l := PySem.Challenge.rw_retryslots_k71_whole_services_far_away) rfl rfl (fun w h Y => PySem.W.kIn_of Y) ?F
  case F =>
    intro w mg fa h KX G hmg XX
    refine' RS.all_mk KX G hmg (RS.long_of XX) ?Aa0 ?La0 ?Ca0 ?Ka0 ?Aa1 ?La1 ?Ca1 ?Ka1 ?Aa2 ?La2 ?Ca2 ?Ka2 ?Aa3 ?La3 ?Ca3 ?Ka3 ?Aa4 ?La4 ?Ca4 ?Ka4 ?Aa5 ?La5 ?Ca5 ?Ka5 ?Ar6 ?Ir6 ?Lr6 ?Cr6 ?Kr6 ?Ar8 ?Ir8 ?Lr8 ?Cr8 ?Kr8 ?Ar9 ?Ir9 ?Lr9 ?Cr9 ?Kr9 ?Ar10 ?Ir10 ?Lr10 ?Cr10 ?Kr10 ?Ar12 ?Ir12 ?Lr12 ?Cr12 ?Kr12 ?Ar13 ?Ir13 ?Lr13 ?Cr13 ?Kr13 ?Ar14 ?Ir14 ?Lr14 ?Cr14 ?Kr14 ?Aa16 ?La16 ?Ca16 ?Ka16 ?Aa17 ?La17 ?Ca17 ?Ka17 ?Aa18 ?La18 ?Ca18 ?Ka18 ?Aa19 ?La19 ?Ca19 ?Ka19 ?Aa20 ?La20 ?Ca20 ?Ka20 ?Aa21 ?La21 ?Ca21 ?Ka21 ?Aa22 ?La22 ?Ca22 ?Ka22 ?Aa23 ?La23 ?Ca23 ?Ka23 ?Aa24 ?La24 ?Ca24 ?Ka24 ?Aa25 ?La25 ?Ca25 ?Ka25 ?Aa26 ?La26 ?Ca26 ?Ka26 ?Aa27 ?La27 ?Ca27 ?Ka27 ?Aa28 ?La28 ?Ca28 ?Ka28 ?Aa29 ?La29 ?Ca29 ?Ka29 ?Aa30 ?La30 ?Ca30 ?Ka30 ?Aa31 ?La31 ?Ca31 ?Ka31 ?Aa32 ?La32 ?Ca32 ?Ka32 ?Al33 ?Il33 ?Ll33 ?Cl33 ?Kl33 ?Al34 ?Il34 ?Ll34 ?Cl34 ?Kl34 ?Al35 ?Il35 ?Ll35 ?Cl35 ?Kl35 ?Al36 ?Il36 ?Ll36 ?Cl36 ?Kl36 ?Al37 ?Il37 ?Ll37 ?Cl37 ?Kl37 ?Aa38 ?La38 ?Ca38 ?Ka38 ?Aa39 ?La39 ?Ca39 ?Ka39 ?Aa40 ?La40 ?Ca40 ?Ka40 ?Aa41 ?La41 ?Ca41 ?Ka41 ?Aa42 ?La42 ?Ca42 ?Ka42 ?Aa43 ?La43 ?Ca43 ?Ka43 ?Aa44 ?La44 ?Ca44 ?Ka44 ?aC ?pg ?hd ?po ?sa ?mk ?kc ?n0 ?n1 ?n2 ?aC_p ?pg_p ?hd_p ?po_p ?sa_p ?mk_p ?kc_p ?n0_p ?n1_p ?n2_p ?n3_p ?n4_p ?n5_p ?z_len ?z_isinstance ?z_int ?z_bool ?z_list ?z_tuple ?z_str ?z_all ?z_range ?z_divmod ?z_sum ?z_max ?z_min ?z_sorted ?z_set ?z_any ?z_enumerate ?c_tM ?c_tF ?c_tL ?c_tC
    (case aC => k_is)
    (case aC_p => k_is)
    (case Aa0 => k_is)
    (case La0 => k_is)
    (case Ca0 => k_is)
    (case Ka0 => k_is)
    (case Aa1 => k_is)
    (case La1 => k_is)
    (case Ca1 => k_is)
    (case Ka1 => k_is)
    (case Aa2 => k_is)
    (case La2 => k_is)
    (case Ca2 => k_is)
    (case Ka2 => k_is)
    (case Aa3 => k_is)
    (case La3 => k_is)
    (case Ca3 => k_is)
    (case Ka3 => k_is)
    (case Aa4 => k_is)
    (case La4 => k_is)
    (case Ca4 => k_is)
    (case Ka4 => k_is)
    (case Aa5 => k_is)
    (case La5 => k_is)
    (case Ca5 => k_is)
    (case Ka5 => k_is)
    (case Ar6 => k_is)
    (case Ir6 => k_is)
    (case Lr6 => k_is)
    (case Cr6 => k_is)
    (case Kr6 => k_is)
    (case Ar8 => k_is)
    (case Ir8 => k_is)
    (case Lr8 => k_is)
    (case Cr8 => k_is)
    (case Kr8 => k_is)
    (case Ar9 => k_is)
    (case Ir9 => k_is)
    (case Lr9 => k_is)
    (case Cr9 => k_is)
    (case Kr9 => k_is)
    (case Ar10 => k_is)
    (case Ir10 => k_is)
    (case Lr10 => k_is)
    (case Cr10 => k_is)
    (case Kr10 => k_is)
    (case Ar12 => k_is)
    (case Ir12 => k_is)
    (case Lr12 => k_is)
    (case Cr12 => k_is)
    (case Kr12 => k_is)
    (case Ar13 => k_is)
    (case Ir13 => k_is)
    (case Lr13 => k_is)
    (case Cr13 => k_is)
    (case Kr13 => k_is)
    (case Ar14 => k_is)
    (case Ir14 => k_is)
    (case Lr14 => k_is)
    (case Cr14 => k_is)
    (case Kr14 => k_is)
    (case Aa16 => k_is)
    (case La16 => k_is)
    (case Ca16 => k_is)
    (case Ka16 => k_is)
    (case Aa17 => k_is)
    (case La17 => k_is)
    (case Ca17 => k_is)
    (case Ka17 => k_is)
    (case Aa18 => k_is)
    (case La18 => k_is)
    (case Ca18 => k_is)
    (case Ka18 => k_is)
    (case Aa19 => k_is)
    (case La19 => k_is)
    (case Ca19 => k_is)
    (case Ka19 => k_is)
    (case Aa20 => k_is)
    (case La20 => k_is)
    (case Ca20 => k_is)
    (case Ka20 => k_is)
    (case Aa21 => k_is)
    (case La21 => k_is)
    (case Ca21 => k_is)
    (case Ka21 => k_is)
    (case Aa22 => k_is)
    (case La22 => k_is)
    (case Ca22 => k_is)
    (case Ka22 => k_is)
    (case Aa23 => k_is)
    (case La23 => k_is)
    (case Ca23 => k_is)
    (case Ka23 => k_is)
    (case Aa24 => k_is)
    (case La24 => k_is)
    (case Ca24 => k_is)
    (case Ka24 => k_is)
    (case Aa25 => k_is)
    (case La25 => k_is)
    (case Ca25 => k_is)
    (case Ka25 => k_is)
    (case Aa26 => k_is)
    (case La26 => k_is)
    (case Ca26 => k_is)
    (case Ka26 => k_is)
    (case Aa27 => k_is)
    (case La27 => k_is)
    (case Ca27 => k_is)
    (case Ka27 => k_is)
    (case Aa28 => k_is)
    (case La28 => k_is)
    (case Ca28 => k_is)
    (case Ka28 => k_is)
    (case Aa29 => k_is)
    (case La29 => k_is)
    (case Ca29 => k_is)
    (case Ka29 => k_is)
    (case Aa30 => k_is)
    (case La30 => k_is)
    (case Ca30 => k_is)
    (case Ka30 => k_is)
    (case Aa31 => k_is)
    (case La31 => k_is)
    (case Ca31 => k_is)
    (case Ka31 => k_is)
    (case Aa32 => k_is)
    (case La32 => k_is)
    (case Ca32 => k_is)
    (case Ka32 => k_is)
    (case Al33 => k_is)
    (case Il33 => k_is)
    (case Ll33 => k_is)
    (case Cl33 => k_is)
    (case Kl33 => k_is)
    (case Al34 => k_is)
    (case Il34 => k_is)
    (case Ll34 => k_is)
    (case Cl34 => k_is)
    (case Kl34 => k_is)
    (case Al35 => k_is)
    (case Il35 => k_is)
    (case Ll35 => k_is)
    (case Cl35 => k_is)
    (case Kl35 => k_is)
    (case Al36 => k_is)
    (case Il36 => k_is)
    (case Ll36 => k_is)
    (case Cl36 => k_is)
    (case Kl36 => k_is)
    (case Al37 => k_is)
    (case Il37 => k_is)
    (case Ll37 => k_is)
    (case Cl37 => k_is)
    (case Kl37 => k_is)
    (case Aa38 => k_is)
    (case La38 => k_is)
    (case Ca38 => k_is)
    (case Ka38 => k_is)
    (case Aa39 => k_is)
    (case La39 => k_is)
    (case Ca39 => k_is)
    (case Ka39 => k_is)
    (case Aa40 => k_is)
    (case La40 => k_is)
    (case Ca40 => k_is)
    (case Ka40 => k_is)
    (case Aa41 => k_is)
    (case La41 => k_is)
    (case Ca41 => k_is)
    (case Ka41 => k_is)
    (case Aa42 => k_is)
    (case La42 => k_is)
    (case Ca42 => k_is)
    (case Ka42 => k_is)
    (case Aa43 => k_is)
    (case La43 => k_is)
    (case Ca43 => k_is)
    (case Ka43 => k_is)
    (case Aa44 => k_is)
    (case La44 => k_is)
    (case Ca44 => k_is)
    (case Ka44 => k_is)
    (case pg => k_is)
    (case hd => k_is)
    (case po => k_is)
    (case sa => k_is)
    (case mk => k_is)
    (case kc => k_is)
    (case n0 => k_is)
    (case n1 => k_is)
    (case n2 => k_is)
    (case pg_p => k_is)
    (case hd_p => k_is)
    (case po_p => k_is)
    (case sa_p => k_is)
    (case mk_p => k_is)
    (case kc_p => k_is)
    (case n0_p => k_is)
    (case n1_p => k_is)
    (case n2_p => k_is)
    (case n3_p => k_is)
    (case n4_p => k_is)
    (case n5_p => k_is)
    (case z_len => k_is)
    (case z_isinstance => k_is)
    (case z_int => k_is)
    (case z_bool => k_is)
    (case z_list => k_is)
    (case z_tuple => k_is)
    (case z_str => k_is)
    (case z_all => k_is)
    (case z_range => k_is)
    (case z_divmod => k_is)
    (case z_sum => k_is)
    (case z_max => k_is)
    (case z_min => k_is)
    (case z_sorted => k_is)
    (case z_set => k_is)
    (case z_any => k_is)
    (case z_enumerate => k_is)
    (case c_tM => k_is)
    (case c_tF => k_is)
    (case c_tL => k_is)
    (case c_tC => k_is)

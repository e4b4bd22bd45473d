import PyProof.Rows.All
import Wide.All
import OpenK.AllK
import Wide.FinOn
import HandS.ForMost
import HandS.Evl
import HandS.Wide
import HandS.WideBits
import HandS.IsInst
import KE.KEqDeep
import KE.KMinKey
import HandS.Codes
import HandS.OwnEq
import PyProof.InstNe
import HandS.MakeKwOnly
import HandS.SortKw
import HandS.Defaults
import HandS.Exc
import HandS.TryOnly
import HandS.TryMany
import HandS.ExcOwn
import HandS.WordsExc
import HandS.More
import HandS.Lambda
import KE.KExcIs
import HandS.HotCalls
import HandS.ExcInit
import KE.KExcInit
import HandS.Walk
import HandS.Flow
import HandS.Style
import HandS.Iter
import PyProof.ReprRoads
import HandS.EndTab
import KE.DataFind
import HandS.SetFor
import HandS.Strs
import HandS.SortInts
import HandS.Conv
import PySem.Challenge.RW_retryslots_k67_distances_that_loop
set_option Elab.async false
set_option maxRecDepth 100000
set_option maxHeartbeats 2000000
namespace RS
open PySem L2
def top (i : Nat) : Stmt := PySem.Challenge.pw_retryslots_k67_distances_that_loop.main.body.getD i (.Pass ⟨0, 0, 0, 0⟩)
abbrev s_wall : Stmt := top 0
abbrev s_InvalidRule_ddinitdd : Stmt := inClass (top 3) 0
abbrev s_InvalidAttempt_ddinitdd : Stmt := inClass (top 4) 0
abbrev s_InvalidSlot_ddinitdd : Stmt := inClass (top 5) 0
abbrev s_LimitExceeded_ddinitdd : Stmt := inClass (top 6) 0
abbrev s_is_integer : Stmt := top 8
abbrev s_check_slot : Stmt := top 11
abbrev s_are_gaps : Stmt := top 12
abbrev s_sums : Stmt := top 14
abbrev s_listed_offsets : Stmt := top 15
abbrev s_repeating_offsets : Stmt := top 16
abbrev s_offsets_beyond : Stmt := top 17
abbrev s_loop_distances : Stmt := top 19
abbrev s_meets_forever : Stmt := top 20
abbrev s_check_repeating : Stmt := top 21
abbrev s_residues : Stmt := top 22
abbrev s_shared_attempts : Stmt := top 24
abbrev s_check_distance : Stmt := top 25
abbrev s_reaching : Stmt := top 26
abbrev s_reaching_repeated : Stmt := top 27
abbrev s_Rule_ddinitdd : Stmt := inClass (top 32) 0
abbrev s_Rule_ddeqdd : Stmt := inClass (top 32) 1
abbrev s_Rule_gaps : Stmt := inClass (top 32) 2
abbrev s_Rule_tail : Stmt := inClass (top 32) 3
abbrev s_Rule_attempts : Stmt := inClass (top 32) 4
abbrev s_Rule_gap : Stmt := inClass (top 32) 5
abbrev s_Rule_offset : Stmt := inClass (top 32) 6
abbrev s_Rule_first_from : Stmt := inClass (top 32) 7
abbrev s_Rule_attempt_at : Stmt := inClass (top 32) 8
abbrev s_Rule_period : Stmt := inClass (top 32) 9
abbrev s_Rule_least_gap : Stmt := inClass (top 32) 10
abbrev s_Rule_first_repeating : Stmt := inClass (top 32) 11
abbrev s_Rule_offsets_between : Stmt := inClass (top 32) 12
abbrev s_Rule_check_attempt : Stmt := inClass (top 32) 13
abbrev s_Rule_offset_of : Stmt := inClass (top 32) 14
abbrev s_Rule_first_growing : Stmt := inClass (top 32) 15
abbrev s_Rule_surely_short : Stmt := inClass (top 32) 16
abbrev s_Rule_first_repeated : Stmt := inClass (top 32) 17
abbrev s_is_tail : Stmt := top 33
abbrev s_first_at_least : Stmt := top 34
abbrev s_power : Stmt := top 35
abbrev s_law_cell_at : Stmt := top 37
abbrev s_law_source_of : Stmt := top 38
abbrev s_law_draw : Stmt := top 39
abbrev s_law_choice : Stmt := top 40
abbrev s_law_repeating : Stmt := top 41
abbrev s_law_residues : Stmt := top 42
abbrev s_law_due : Stmt := top 43
abbrev s_law : Stmt := top 44
/-! ### what the walk asks of the text's top -/
structure Txt (K : PySem.W.Frag) (mg : Str → Option Value) (C : Addr) : Prop where
  cl : Cls K C
  nG : NoAttr K C "_gaps"
  nT : NoAttr K C "_tail"
  nO : NoAttr K C "_offsets"
  mgC : mg "Rule" = some (.ref C)
  len : mg "len" = none
  isi : mg "isinstance" = none
  int : mg "int" = none
  bool : mg "bool" = none
  list : mg "list" = none
  tuple : mg "tuple" = none
  str : mg "str" = none
  all : mg "all" = none
  range : mg "range" = none
  divmod : mg "divmod" = none
  sum : mg "sum" = none
  max : mg "max" = none
  min : mg "min" = none
  sorted : mg "sorted" = none
  set : mg "set" = none
  any : mg "any" = none
  enum : mg "enumerate" = none
  mMost : ∃ t, mg "_MOST_GAPS" = some (.int 20 t)
  mLong : ∃ t, mg "_LONGEST_GAP" = some (.int 1000000000000 t)
  mFact : ∃ t, mg "_GREATEST_FACTOR" = some (.int 1000 t)
  mLast : ∃ t, mg "LAST_GROWING" = some (.int 1000 t)

/-! ### the data -/
/-- a rule's tail -/
inductive Tl where
  | fin
  | times (b : Int)
  | rep (n : Nat)
def Tl.vs : Tl → List V
  | .fin => [.str "end"]
  | .times b => [.str "times", .int b]
  | .rep n => [.str "repeat", .int (n : Int)]
def GapsOk (gs : List Int) : Prop := gs.length ≤ 20 ∧ ∀ g ∈ gs, 1 ≤ g ∧ g ≤ 1000000000000
def TlOk (many : Nat) : Tl → Prop
  | .fin => True
  | .times b => 0 < many ∧ 2 ≤ b ∧ b ≤ 1000
  | .rep n => 1 ≤ n ∧ n ≤ many
/-- the sum of the first k gaps -/
def pre (gs : List Int) (k : Nat) : Int := (gs.take k).sum
def offs (gs : List Int) : List Int := (List.range (gs.length + 1)).map (pre gs)
theorem offs_len (gs : List Int) : (offs gs).length = gs.length + 1 := by simp [offs]
theorem offs_get (gs : List Int) {k : Nat} (h : k ≤ gs.length) : (offs gs)[k]? = some (pre gs k) := by
  unfold offs
  rw [List.getElem?_map, List.getElem?_range (by omega)]
  rfl
theorem pre_zero (gs : List Int) : pre gs 0 = 0 := rfl
theorem pre_succ (gs : List Int) {k : Nat} {g : Int} (h : gs[k]? = some g) : pre gs (k + 1) = pre gs k + g := by
  unfold pre
  rw [List.take_add_one, h, List.sum_append]
  simp
theorem iteFb {b : Bool} {A B : Prop} (e : b = false) (h : B) : if b = true then A else B := by
  rw [e]
  exact iteF h
theorem iteTb {b : Bool} {A B : Prop} (e : b = true) (h : A) : if b = true then A else B := by
  rw [e]
  exact iteT h
theorem yes_t {Q : Bool → Hp → Prop} {σ : L2.St} {H : Hp} (h : Q true H) : tYes σ H Q := h
theorem at_map {xs : List Int} {j : Nat} {v : Int} (h : xs[j]? = some v) : atI (xs.map V.int) (j : Int) = some (.int v) := atI_nat (by rw [List.getElem?_map, h]; rfl)
theorem at_back {α : Type} {xs : List α} {j : Nat} {v : α} (h0 : 0 < j) (hj : j ≤ xs.length) (h : xs[xs.length - j]? = some v) : atI xs (-(j : Int)) = some v := by
  have e : ixN xs.length (-(j : Int)) = some (xs.length - j) := by
    unfold ixN
    rw [if_neg (by omega), if_pos (by omega)]
    congr 1
    omega
  unfold atI
  rw [e]
  exact h
theorem at_back1 {α : Type} {xs : List α} {v : α} (hj : 0 < xs.length) (h : xs[xs.length - 1]? = some v) : atI xs (-1) = some v := at_back (j := 1) (by omega) hj h

section
variable {P : Program} {w : World} {K : PySem.W.Frag} {mg : Str → Option Value} {base : Heap}
/-! ### is_integer -/
def spIsInt : Sp := fun vs H Q _ => ∃ i, vs = [.int i] ∧ Q (.bl true) H
theorem scIsInt : FnScope ["value"] ["value"] (defScope s_is_integer) := ⟨rfl, rfl, rfl, by decide +kernel, rfl, by decide +kernel, by decide +kernel⟩
theorem ok_isInt {f C : Addr} {fd : FuncData} (F : Fun K "is_integer" "is_integer" s_is_integer f fd) (T : Txt K mg C) : FnOk P w K mg base CX0 1 f fd ["value"] spIsInt := by
  refine F.ok scIsInt (fun vs H Q E h => ?_) (fun cdv A outer s H vs Q E hr h => ?_)
  · obtain ⟨i, rfl, _⟩ := h
    rfl
  · obtain ⟨i, rfl, k⟩ := h
    refine ⟨_, pss_one (ps_ret (pe_and (pe_callB call_isi (by rfl) T.isi (by decide +kernel) (pa_cons (pv 0) (pa_cons (pe_bltn (v := .ty "int") (by rfl) T.int (by decide +kernel) rfl) pa_nil))) (pe_one (pe_not (pe_callB call_isi (by rfl) T.isi (by decide +kernel) (pa_cons (pv 0) (pa_cons (pe_bltn (v := .ty "bool") (by rfl) T.bool (by decide +kernel) rfl) pa_nil))))))), ?_⟩
    refine ⟨_, rfl, _, _, _, _, _, rfl, .ty _, .base (.int i), kit_ty (r := true) (by decide +kernel), true, rfl, ?_⟩
    refine iteT ?_
    exact ⟨_, rfl, _, _, _, _, _, rfl, .ty _, .base (.int i), kit_ty (r := false) (by decide +kernel), false, rfl, k⟩

/-! ### _are_gaps -/
def spAreGaps : Sp := fun vs H Q _ => ∃ a gs, ∃ most : Nat, vs = [.ref a, .int (most : Int)] ∧ H a = some (.lst (gs.map V.int)) ∧ GapsOk gs ∧ gs.length ≤ most ∧ ∀ H', Same H H' → Q (.bl true) H'
theorem scAreGaps : FnScope ["value", "most", "gap"] ["value", "most"] (defScope s_are_gaps) := ⟨rfl, rfl, rfl, by decide +kernel, rfl, by decide +kernel, by decide +kernel⟩
theorem ok_areGaps {f C fi : Addr} {fd fdi : FuncData} (F : Fun K "are_gaps" "are_gaps" s_are_gaps f fd) (T : Txt K mg C) (FI : Fun K "is_integer" "is_integer" s_is_integer fi fdi) (bI : Binds K fdi ["value"] []) (mI : mg "is_integer" = some (.ref fi)) : FnOk P w K mg base CX0 2 f fd ["value", "most"] spAreGaps := by
  have GI : FnOk P w K mg base CX0 1 fi fdi ["value"] spIsInt := ok_isInt FI T
  obtain ⟨t2, m2⟩ := T.mLong
  refine F.ok scAreGaps (fun vs H Q E h => ?_) (fun cdv A outer s H vs Q E hr h => ?_)
  · obtain ⟨a, gs, most, rfl, _⟩ := h
    rfl
  · obtain ⟨a, gs, most, rfl, ha, ok, okm, k⟩ := h
    refine ⟨_, (pss_cons (ps_if (PW.pt (pw_or (pt_not (pt_val (pe_callB call_isi (by rfl) T.isi (by decide +kernel) (pa_cons (pv 0) (pa_cons (pe_bltn (v := .ty "list") (by rfl) T.list (by decide +kernel) rfl) pa_nil))))) (pw_or1 (pt_cmpR op_gt (pe_callB call_len_seq (by rfl) T.len (by decide +kernel) (pa_cons (pv 0) pa_nil)) (pv 1) (nomark _))))) (pss_one (ps_ret pe_bl)) pss_nil) (pss_one (ps_ret (pe_callB (cr_all rfl) (by rfl) T.all (by decide +kernel) (pa_cons (pe_lc (own := [("gap", 2)]) (g := gName 2) (tt := tYes) rfl scAreGaps.nd (pi_list (pv 0)) (blkOk_by (own := [("gap", 2)]) (N := ["value", "most", "gap"]) (sc := defScope s_are_gaps) (by decide +kernel))
          (fun _ _ _ _ _ => (pg_name (i := 2) scAreGaps.nd rfl (Or.inl rfl))) (fun _ _ _ _ _ => pts_nil)
          (fun _ _ _ _ _ => pe_and (pe_call GI hr rfl mI FI.kp bI .nil pass0 (pa_cons (pv 2) pa_nil)) (pe_one (pe_chain op_le op_le pe_int (pv 2) (pe_glob (v := .int 1000000000000) rfl m2 ⟨_, rfl⟩))))) pa_nil))))), ?_⟩
    refine ⟨_, rfl, _, _, _, _, _, rfl, .ty _, .base (.lst ha), kit_ty (r := true) (by decide +kernel), true, rfl, ?_⟩
    refine iteF ?_
    refine ⟨_, rfl, a, _, rfl, .inl (SqL.of ha), _, rfl, _, _, rfl, rfl, _, rfl, ?_⟩
    refine iteFb (decide_eq_false (by rw [List.length_map]; omega)) ?_
    refine ⟨_, rfl, a, rfl, ⟨_, SqL.of ha⟩, fun D hD => lc_list (a := a) (xs := gs.map V.int) (fun i H' => Same H H' ∧ H' D = some (.lst ((List.replicate i true).map V.bl))) ⟨?_, upd_same⟩ (fun i H' _ p => p.1.seq (SqL.of ha)) (fun i x H' hx p => ?_) (fun H' p => ?_)⟩
    · intro b o e
      rw [upd_ne (ne_of_none e hD)]
      exact e
    · obtain ⟨g, hg, rfl⟩ : ∃ g, gs[i]? = some g ∧ x = .int g := by
        rw [List.getElem?_map] at hx
        cases e : gs[i]? with
        | none => rw [e] at hx; cases hx
        | some g => rw [e] at hx; exact ⟨g, rfl, (Option.some.inj hx).symm⟩
      have hb := ok.2 g (List.mem_of_getElem? hg)
      have hi : i < gs.length := (List.getElem?_eq_some_iff.mp hg).1
      refine ⟨rfl, ?_⟩
      refine yes_t (iteT ?_)
      refine ⟨_, rfl, g, rfl, true, rfl, iteT ?_⟩
      refine ⟨_, rfl, _, _, rfl, rfl, _, rfl, iteTb (decide_eq_true hb.1) ?_⟩
      refine ⟨_, _, rfl, rfl, _, p.2, ?_, fun b o e => ?_, ?_⟩
      · rw [List.length_map, List.length_replicate]
        exact small1000 (by have := ok.1; omega)
      · rw [upd_ne (ne_of_none e hD)]
        exact p.1 b o e
      · rw [upd_same, List.replicate_succ', List.map_append]
        show some (HO.lst (List.map V.bl (List.replicate i true) ++ [V.bl (decide (g ≤ 1000000000000))])) = _
        rw [decide_eq_true hb.2]
        rfl
    · refine ⟨D, _, rfl, SqL.of p.2, ?_⟩
      have e : (List.replicate (gs.map V.int).length true).all id = true := by
        rw [List.all_eq_true]
        intro x hx
        rw [(List.mem_replicate.mp hx).2]
        rfl
      rw [e]
      exact k H' p.1

/-! ### _is_tail -/
def spIsTail : Sp := fun vs H Q _ => ∃ (t : Addr) (tl : Tl) (n : Nat), vs = [.ref t, .int (n : Int)] ∧ H t = some (.tup tl.vs) ∧ TlOk n tl ∧ ∀ H', Same H H' → Q (.bl true) H'
theorem scIsTail : FnScope ["value", "many"] ["value", "many"] (defScope s_is_tail) := ⟨rfl, rfl, rfl, by decide +kernel, rfl, by decide +kernel, by decide +kernel⟩
theorem same_new {H : Hp} {p : Addr} {o : HO} (h : H p = none) : Same H (upd H p o) := fun b u e => by
  rw [upd_ne (ne_of_none e h)]
  exact e
theorem ok_isTail {f C fi : Addr} {fd fdi : FuncData} (F : Fun K "_is_tail" "_is_tail" s_is_tail f fd) (T : Txt K mg C) (FI : Fun K "is_integer" "is_integer" s_is_integer fi fdi) (bI : Binds K fdi ["value"] []) (mI : mg "is_integer" = some (.ref fi)) : FnOk P w K mg base CX0 2 f fd ["value", "many"] spIsTail := by
  have GI : FnOk P w K mg base CX0 1 fi fdi ["value"] spIsInt := ok_isInt FI T
  obtain ⟨t1, m1⟩ := T.mFact
  refine F.ok scIsTail (fun vs H Q E h => ?_) (fun cdv A outer s H vs Q E hr h => ?_)
  · obtain ⟨t, tl, n, rfl, _⟩ := h
    rfl
  · obtain ⟨t, tl, n, rfl, ht, ok, k⟩ := h
    refine ⟨_, (pss_cons (ps_if (PW.pt (pw_or (pt_not (pt_val (pe_callB call_isi (by rfl) T.isi (by decide +kernel) (pa_cons (pv 0) (pa_cons (pe_bltn (v := .ty "tuple") (by rfl) T.tuple (by decide +kernel) rfl) pa_nil))))) (pw_or1 (pt_cmpR op_notIn_seq (pe_callB call_len_seq (by rfl) T.len (by decide +kernel) (pa_cons (pv 0) pa_nil)) (pe_tup (pa_cons pe_int (pa_cons pe_int pa_nil))) (by rfl))))) (pss_one (ps_ret pe_bl)) pss_nil) (pss_cons (ps_if (pt_not (pt_val (pe_callB call_isi (by rfl) T.isi (by decide +kernel) (pa_cons (pe_ix ix_tup (pv 0) pe_int (fun _ _ => rfl)) (pa_cons (pe_bltn (v := .ty "str") (by rfl) T.str (by decide +kernel) rfl) pa_nil))))) (pss_one (ps_ret pe_bl)) pss_nil) (pss_cons (ps_if (pt_cmpR op_eq (pe_callB call_len_seq (by rfl) T.len (by decide +kernel) (pa_cons (pv 0) pa_nil)) pe_int (nomark _)) (pss_one (ps_ret (pe_cmpR op_eq (pe_ix ix_tup (pv 0) pe_int (fun _ _ => rfl)) pe_str (nomark _)))) pss_nil) (pss_cons (ps_if (pt_not (pt_val (pe_call GI hr rfl mI FI.kp bI .nil pass0 (pa_cons (pe_ix ix_tup (pv 0) pe_int (fun _ _ => rfl)) pa_nil)))) (pss_one (ps_ret pe_bl)) pss_nil) (pss_cons (ps_if (pt_cmpR op_eq (pe_ix ix_tup (pv 0) pe_int (fun _ _ => rfl)) pe_str (nomark _)) (pss_one (ps_ret (pe_and (pe_cmpR op_gt (pv 1) pe_int (nomark _)) (pe_one (pe_chain op_le op_le pe_int (pe_ix ix_tup (pv 0) pe_int (fun _ _ => rfl)) (pe_glob (v := .int 1000) rfl m1 ⟨_, rfl⟩)))))) pss_nil) (pss_one (ps_ret (pe_and (pe_cmpR op_eq (pe_ix ix_tup (pv 0) pe_int (fun _ _ => rfl)) pe_str (nomark _)) (pe_one (pe_chain op_le op_le pe_int (pe_ix ix_tup (pv 0) pe_int (fun _ _ => rfl)) (pv 1))))))))))), ?_⟩
    refine ⟨_, rfl, _, _, _, _, _, rfl, .ty _, .base (.tup ht), kit_ty (r := true) (by decide +kernel), true, rfl, ?_⟩
    refine iteF ?_
    refine ⟨_, rfl, t, _, rfl, .inr (SqT.of ht), by show 2 ≤ sizeLine; decide, fun q hq => ?_⟩
    have hS : Same H (upd H q (.tup [.int 1, .int 2])) := same_new hq
    have ht2 := hS t _ ht
    refine ⟨q, _, rfl, .inr (SqT.of upd_same), rfl, rfl, _, rfl, ?_⟩
    cases tl with
    | fin =>
      refine iteFb (by decide +kernel) ?_
      refine ⟨_, rfl, t, _, _, _, rfl, rfl, SqT.of ht2, atI_nat (j := 0) rfl, _, _, _, _, _, rfl, .ty _, .base (.str _), kit_ty (r := true) (by decide +kernel), true, rfl, iteF ?_⟩
      refine ⟨_, rfl, t, _, rfl, .inr (SqT.of ht2), rfl, _, rfl, iteTb (by decide +kernel) ?_⟩
      refine ⟨_, rfl, t, _, _, _, rfl, rfl, SqT.of ht2, atI_nat (j := 0) rfl, rfl, ?_⟩
      exact k _ hS
    | times b =>
      refine iteFb (by show (!inV (V.int 2) [V.int 1, V.int 2]) = false; decide +kernel) ?_
      refine ⟨_, rfl, t, _, _, _, rfl, rfl, SqT.of ht2, atI_nat (j := 0) rfl, _, _, _, _, _, rfl, .ty _, .base (.str _), kit_ty (r := true) (by decide +kernel), true, rfl, iteF ?_⟩
      refine ⟨_, rfl, t, _, rfl, .inr (SqT.of ht2), rfl, _, rfl, iteFb (by show decide (V.int 2 = V.int 1) = false; decide +kernel) ?_⟩
      refine ⟨_, rfl, t, _, _, _, rfl, rfl, SqT.of ht2, atI_nat (j := 1) rfl, b, rfl, true, rfl, iteF ?_⟩
      refine ⟨_, rfl, t, _, _, _, rfl, rfl, SqT.of ht2, atI_nat (j := 0) rfl, rfl, _, rfl, iteTb (by decide +kernel) ?_⟩
      refine ⟨_, rfl, _, _, rfl, rfl, _, rfl, iteTb (decide_eq_true (by have := ok.1; omega)) ?_⟩
      refine ⟨_, rfl, t, _, _, _, rfl, rfl, SqT.of ht2, atI_nat (j := 1) rfl, _, _, rfl, rfl, _, rfl, iteTb (decide_eq_true ok.2.1) ?_⟩
      refine ⟨_, _, rfl, rfl, ?_⟩
      show Q (.bl (decide (b ≤ 1000))) _
      rw [decide_eq_true ok.2.2]
      exact k _ hS
    | rep m =>
      refine iteFb (by show (!inV (V.int 2) [V.int 1, V.int 2]) = false; decide +kernel) ?_
      refine ⟨_, rfl, t, _, _, _, rfl, rfl, SqT.of ht2, atI_nat (j := 0) rfl, _, _, _, _, _, rfl, .ty _, .base (.str _), kit_ty (r := true) (by decide +kernel), true, rfl, iteF ?_⟩
      refine ⟨_, rfl, t, _, rfl, .inr (SqT.of ht2), rfl, _, rfl, iteFb (by show decide (V.int 2 = V.int 1) = false; decide +kernel) ?_⟩
      refine ⟨_, rfl, t, _, _, _, rfl, rfl, SqT.of ht2, atI_nat (j := 1) rfl, _, rfl, true, rfl, iteF ?_⟩
      refine ⟨_, rfl, t, _, _, _, rfl, rfl, SqT.of ht2, atI_nat (j := 0) rfl, rfl, _, rfl, iteFb (by decide +kernel) ?_⟩
      refine ⟨_, rfl, t, _, _, _, rfl, rfl, SqT.of ht2, atI_nat (j := 0) rfl, rfl, true, by decide +kernel, iteT ?_⟩
      refine ⟨_, rfl, t, _, _, _, rfl, rfl, SqT.of ht2, atI_nat (j := 1) rfl, _, _, rfl, rfl, _, rfl, iteTb (decide_eq_true (by have := ok.1; omega)) ?_⟩
      refine ⟨_, rfl, _, _, rfl, rfl, ?_⟩
      show Q (.bl (decide (((m : Nat) : Int) ≤ (n : Int)))) _
      rw [decide_eq_true (show ((m : Nat) : Int) ≤ (n : Int) by have := ok.2; omega)]
      exact k _ hS
end
end RS
/-! ### comprehensions that only make values -/
namespace L2
open PySem PySem.Spec PyProof.Rows
/-- what the first i turns have made -/
def selTo (sel : Nat → Option V) (i : Nat) : List V := (List.range i).filterMap sel
theorem selTo_succ (sel : Nat → Option V) (i : Nat) : selTo sel (i + 1) = selTo sel i ++ (sel i).toList := by
  unfold selTo
  rw [List.range_succ, List.filterMap_append]
  cases h : sel i <;> simp [h]
theorem selTo_le (sel : Nat → Option V) (i : Nat) : (selTo sel i).length ≤ i := by
  unfold selTo
  have := List.length_filterMap_le sel (List.range i)
  rw [List.length_range] at this
  exact this
theorem selTo_get (ys : List V) : ∀ i, i ≤ ys.length → selTo (fun j : Nat => ys[j]?) i = ys.take i
  | 0, _ => rfl
  | i + 1, h => by
    rw [selTo_succ, selTo_get ys i (by omega), List.take_add_one]
theorem same_app {H1 H : Hp} {D : Addr} {o : HO} (hD : H1 D = none) (S : Same H1 H) : Same H1 (upd H D o) := fun b u e => by
  rw [upd_ne (ne_of_none e hD)]
  exact S b u e
theorem small_line {n : Nat} (h : n ≤ 100000) : n < sizeLine := Nat.lt_of_le_of_lt h (by decide +kernel)
/-- xs[i] in a block, K written -/
theorem pe_ixK {X : Cx} (K : PySem.W.Frag) (hK : X.K = K) {o i : Expr} {to ti : TE} {pos : Pos} (ho : PE X o to) (hi : PE X i ti) (hp : PlainIx i := by exact fun _ _ => rfl) : PE X (.Subscript o i pos) (tOp (rIxL K) to ti) := by
  subst hK
  exact pe_ix ix_list ho hi hp
theorem pe_ixTK {X : Cx} (K : PySem.W.Frag) (hK : X.K = K) {o i : Expr} {to ti : TE} {pos : Pos} (ho : PE X o to) (hi : PE X i ti) (hp : PlainIx i := by exact fun _ _ => rfl) : PE X (.Subscript o i pos) (tOp (rIxT K) to ti) := by
  subst hK
  exact pe_ix ix_tup ho hi hp
section
variable {X : Cx} {e tg : Expr} {te : TE} {p pos : Pos}
theorem pi_listK (K : PySem.W.Frag) (hK : X.K = K) (h : PE X e te) : PI X tg e (iList K te) := by
  subst hK
  exact pi_list h
theorem pi_tupK (K : PySem.W.Frag) (hK : X.K = K) (h : PE X e te) : PI X tg e (iTup K te) := by
  subst hK
  exact pi_tup h
theorem pe_allK (K : PySem.W.Frag) (hK : X.K = K) (hc : X.calm = true) (hg : Gl X "all") (hm : X.mg "all" = none) (ha : PE X e te) (hs : starEach [e] X.env = (false, eval e X.env) :: starEach [] X.env := by rfl) : PE X (.Call (.Name "all" p) [e] [] pos) (tCB (rAll K) (tCons te tNil)) := by
  subst hK
  exact pe_callB (cr_all hc) hg hm (by decide +kernel) (pa_cons ha pa_nil hs) (he := hs)
theorem pe_minK (K : PySem.W.Frag) (hK : X.K = K) (hc : X.calm = true) (hg : Gl X "min") (hm : X.mg "min" = none) (ha : PE X e te) (hs : starEach [e] X.env = (false, eval e X.env) :: starEach [] X.env := by rfl) : PE X (.Call (.Name "min" p) [e] [] pos) (tCB (rMin K) (tCons te tNil)) := by
  subst hK
  exact pe_callB (cr_min hc) hg hm (by decide +kernel) (pa_cons ha pa_nil hs) (he := hs)
end
section
variable {K : PySem.W.Frag} {a : Addr} {xs : List V} {g : TG} {tt : TT} {te : TE} {vs : List Nat} {σ : St} {H1 : Hp} {D : Addr} {Qd : Hp → Prop}
/-- over a list: turn i makes sel i, or nothing -/
theorem lc_sel (sel : Nat → Option V) (hx : SqL K H1 a xs) (hD : H1 D = none) (hn : xs.length ≤ 100000)
    (hs : ∀ (i : Nat) (x : V) (H : Hp) (Q : Option V → Hp → Prop), xs[i]? = some x → Same H1 H → (∀ H', Same H H' → Q (sel i) H') → g x (wipe σ vs) H fun σ2 H2 => wipe σ2 vs = wipe σ vs ∧ tt σ2 H2 fun b H3 =>
      if b = true then te σ2 H3 fun y H4 => Q (some y) H4 else Q none H3)
    (hd : ∀ H, Same H1 H → H D = some (.lst (selTo sel xs.length)) → Qd H) :
    ∃ W : Nat → Nat → Hp → Prop, (∃ m, W 0 m (upd H1 D (.lst []))) ∧ ∀ i m H, W i m H →
      ((Itl K a).stop i H ∧ Qd H) ∨ ((Itl K a).go i H ∧ ∃ Nx : Hp → Prop, (∀ H', Nx H' → ∃ m', m' < m ∧ W (i + 1) m' H') ∧ ∀ x H', (Itl K a).yld i H x H' → g x (wipe σ vs) H' fun σ2 H2 => wipe σ2 vs = wipe σ vs ∧ tt σ2 H2 fun b H3 =>
        if b = true then te σ2 H3 fun y H4 => ∃ acc, H4 D = some (.lst acc) ∧ acc.length < sizeLine ∧ Nx (upd H4 D (.lst (acc ++ [y]))) else Nx H3) := by
  refine lc_list (a := a) (xs := xs) (fun i H => i ≤ xs.length ∧ Same H1 H ∧ H D = some (.lst (selTo sel i))) ⟨Nat.zero_le _, same_app hD (fun _ _ e => e), upd_same⟩ (fun i H _ p => p.2.1.seq hx) (fun i x H hi p => ?_) (fun H p => hd H p.2.1 p.2.2)
  have hlt : i < xs.length := (List.getElem?_eq_some_iff.mp hi).1
  refine hs i x H (fun o H' => match o with | some y => ∃ acc, H' D = some (.lst acc) ∧ acc.length < sizeLine ∧ (i + 1 ≤ xs.length ∧ Same H1 (upd H' D (.lst (acc ++ [y]))) ∧ upd H' D (.lst (acc ++ [y])) D = some (.lst (selTo sel (i + 1)))) | none => i + 1 ≤ xs.length ∧ Same H1 H' ∧ H' D = some (.lst (selTo sel (i + 1)))) hi p.2.1 (fun H' S => ?_)
  have hl := selTo_le sel i
  rw [selTo_succ]
  cases sel i with
  | none => exact ⟨hlt, p.2.1.trans S, by simpa using S _ _ p.2.2⟩
  | some y => exact ⟨_, S _ _ p.2.2, small_line (by omega), hlt, same_app hD (p.2.1.trans S), upd_same⟩
/-- over a range -/
theorem lc_selR {lo : Int} {n : Nat} (sel : Nat → Option V) (hD : H1 D = none) (hn : n ≤ 100000)
    (hs : ∀ (i : Nat) (H : Hp) (Q : Option V → Hp → Prop), i < n → Same H1 H → (∀ H', Same H H' → Q (sel i) H') → g (.int (lo + i)) (wipe σ vs) H fun σ2 H2 => wipe σ2 vs = wipe σ vs ∧ tt σ2 H2 fun b H3 =>
      if b = true then te σ2 H3 fun y H4 => Q (some y) H4 else Q none H3)
    (hd : ∀ H, Same H1 H → H D = some (.lst (selTo sel n)) → Qd H) :
    ∃ W : Nat → Nat → Hp → Prop, (∃ m, W 0 m (upd H1 D (.lst []))) ∧ ∀ i m H, W i m H →
      ((Itr lo n).stop i H ∧ Qd H) ∨ ((Itr lo n).go i H ∧ ∃ Nx : Hp → Prop, (∀ H', Nx H' → ∃ m', m' < m ∧ W (i + 1) m' H') ∧ ∀ x H', (Itr lo n).yld i H x H' → g x (wipe σ vs) H' fun σ2 H2 => wipe σ2 vs = wipe σ vs ∧ tt σ2 H2 fun b H3 =>
        if b = true then te σ2 H3 fun y H4 => ∃ acc, H4 D = some (.lst acc) ∧ acc.length < sizeLine ∧ Nx (upd H4 D (.lst (acc ++ [y]))) else Nx H3) := by
  refine lc_range (fun i H => i ≤ n ∧ Same H1 H ∧ H D = some (.lst (selTo sel i))) ⟨Nat.zero_le _, same_app hD (fun _ _ e => e), upd_same⟩ (fun i H hlt p => ?_) (fun H p => hd H p.2.1 p.2.2)
  refine hs i H (fun o H' => match o with | some y => ∃ acc, H' D = some (.lst acc) ∧ acc.length < sizeLine ∧ (i + 1 ≤ n ∧ Same H1 (upd H' D (.lst (acc ++ [y]))) ∧ upd H' D (.lst (acc ++ [y])) D = some (.lst (selTo sel (i + 1)))) | none => i + 1 ≤ n ∧ Same H1 H' ∧ H' D = some (.lst (selTo sel (i + 1)))) hlt p.2.1 (fun H' S => ?_)
  have hl := selTo_le sel i
  rw [selTo_succ]
  cases sel i with
  | none => exact ⟨hlt, p.2.1.trans S, by simpa using S _ _ p.2.2⟩
  | some y => exact ⟨_, S _ _ p.2.2, small_line (by omega), hlt, same_app hD (p.2.1.trans S), upd_same⟩
theorem yes_ite {te : TE} {F : V → Hp → Prop} {N : Hp → Prop} {σ : St} {H : Hp} : (tYes σ H fun b H3 => if b = true then te σ H3 F else N H3) = te σ H F := by simp [tYes]
/-- over a list, without a test: the values ys -/
theorem lc_map (ys : List V) (hx : SqL K H1 a xs) (hD : H1 D = none) (hl : ys.length = xs.length) (hn : xs.length ≤ 100000)
    (hs : ∀ (i : Nat) (x y : V) (H : Hp) (Q : V → Hp → Prop), xs[i]? = some x → ys[i]? = some y → Same H1 H → (∀ H', Same H H' → Q y H') → g x (wipe σ vs) H fun σ2 H2 => wipe σ2 vs = wipe σ vs ∧ te σ2 H2 Q)
    (hd : ∀ H, Same H1 H → H D = some (.lst ys) → Qd H) :
    ∃ W : Nat → Nat → Hp → Prop, (∃ m, W 0 m (upd H1 D (.lst []))) ∧ ∀ i m H, W i m H →
      ((Itl K a).stop i H ∧ Qd H) ∨ ((Itl K a).go i H ∧ ∃ Nx : Hp → Prop, (∀ H', Nx H' → ∃ m', m' < m ∧ W (i + 1) m' H') ∧ ∀ x H', (Itl K a).yld i H x H' → g x (wipe σ vs) H' fun σ2 H2 => wipe σ2 vs = wipe σ vs ∧ tYes σ2 H2 fun b H3 =>
        if b = true then te σ2 H3 fun y H4 => ∃ acc, H4 D = some (.lst acc) ∧ acc.length < sizeLine ∧ Nx (upd H4 D (.lst (acc ++ [y]))) else Nx H3) := by
  refine lc_sel (fun j : Nat => ys[j]?) hx hD hn (fun i x H Q hi S q => ?_) (fun H S h => hd H S (by rw [← hl, selTo_get ys _ (Nat.le_refl _), List.take_length] at h; exact h))
  have hlt : i < xs.length := (List.getElem?_eq_some_iff.mp hi).1
  have hy : ys[i]? = some ys[i] := List.getElem?_eq_getElem (by omega)
  simp only [yes_ite]
  exact hs i x _ H (fun y H' => Q (some y) H') hi hy S fun H' S' => hy ▸ q H' S'
theorem lc_mapR {lo : Int} {n : Nat} (ys : List V) (hD : H1 D = none) (hl : ys.length = n) (hn : n ≤ 100000)
    (hs : ∀ (i : Nat) (y : V) (H : Hp) (Q : V → Hp → Prop), i < n → ys[i]? = some y → Same H1 H → (∀ H', Same H H' → Q y H') → g (.int (lo + i)) (wipe σ vs) H fun σ2 H2 => wipe σ2 vs = wipe σ vs ∧ te σ2 H2 Q)
    (hd : ∀ H, Same H1 H → H D = some (.lst ys) → Qd H) :
    ∃ W : Nat → Nat → Hp → Prop, (∃ m, W 0 m (upd H1 D (.lst []))) ∧ ∀ i m H, W i m H →
      ((Itr lo n).stop i H ∧ Qd H) ∨ ((Itr lo n).go i H ∧ ∃ Nx : Hp → Prop, (∀ H', Nx H' → ∃ m', m' < m ∧ W (i + 1) m' H') ∧ ∀ x H', (Itr lo n).yld i H x H' → g x (wipe σ vs) H' fun σ2 H2 => wipe σ2 vs = wipe σ vs ∧ tYes σ2 H2 fun b H3 =>
        if b = true then te σ2 H3 fun y H4 => ∃ acc, H4 D = some (.lst acc) ∧ acc.length < sizeLine ∧ Nx (upd H4 D (.lst (acc ++ [y]))) else Nx H3) := by
  refine lc_selR (fun j : Nat => ys[j]?) hD hn (fun i H Q hlt S q => ?_) (fun H S h => hd H S (by rw [← hl, selTo_get ys _ (Nat.le_refl _), List.take_length] at h; exact h))
  have hy : ys[i]? = some ys[i] := List.getElem?_eq_getElem (by omega)
  simp only [yes_ite]
  exact hs i _ H (fun y H' => Q (some y) H') hlt hy S fun H' S' => hy ▸ q H' S'
end
end L2
/-! ### set(xs) of a list of ints -/
namespace L2
open PySem PySem.Spec PyProof.Rows
def eset (w : World) : Obj := { cls := .type "set", dict := none, data := .set #[] 0 (.fresh 0 0 (!w.params.followText "set-order")) }
section
variable {P : Program} {w : World} {A : Around} {E : Value → Shared → Prop} {s : Shared}
set_option maxHeartbeats 4000000 in
theorem set_from {l : Addr} {its : Array Value} (zs : List Int) {Q : Value → Shared → Prop} (calm : A.handled = none) (isl : s.heap.IsList l its) (hz : IntsAre its.toList zs) (few : zs.length + 1 < scanBound)
    (fin : ∀ (g : Heap) (tt n : Nat), SetR w g s.heap.objs.size (fun j => decide (j ∈ zs)) n → n ≤ zs.length → (∀ b o, s.heap.get? b = some o → g.get? b = some o) → Q (.ref s.heap.objs.size) { s with heap := g, toks := tt }) :
    wpAny (model P w) A (call (.type "set") [.ref l]) Q E s := by
  have many : its.size = zs.length := by simpa using IntsAre.length hz
  have k1 := F.called_set
  obtain ⟨cc, tll, mroS⟩ := k1.mro
  have m1 := k1.made; have m2 := k1.sub; have m3 := k1.notType; have m4 := k1.canCreate; have m5 := F.typeCall_set_1 (.ref l)
  refine wpAny_call (codeAny_of_tree (show wpAny _ _ (callAny (.type "set") _) _ _ _ from wpAny_pure ⟨Code.quiet_builtin _ (by decide +kernel), codeAny_builtin F.entry_type_call ?_⟩))
  rw [Around.under_plain (weight_type_call_type "set" [.ref l] []) rfl]
  repeat (any_goals (first | assumption | wp_step))
  refine codeAny_mono (code_set_led1 (.ref l) (E := E) (Q₁ := fun ob t => ob = .ref s.heap.objs.size ∧ t = { s with heap := s.heap.push (eset w) }) ⟨rfl, rfl⟩) fun out t1 told => ?_
  match out, told with
  | .error _, told => exact told
  | .ok .next, told => exact told.elim
  | .ok .brk, told => exact told.elim
  | .ok .cont, told => exact told.elim
  | .ok (.ret ob), ⟨eo, et⟩ =>
    subst eo et
    have atS : (s.heap.push (eset w)).get? s.heap.objs.size = some (eset w) := Heap.get?_push_size _ rfl
    have tyS : Shared.TypeIs { s with heap := s.heap.push (eset w) } (.ref s.heap.objs.size) "set" := ⟨_, atS, rfl⟩
    have n1 := k1.init.lookup; have n2 := k1.init.bind (.ref s.heap.objs.size)
    repeat (any_goals (first | assumption | wp_step))
    refine codeAny_mono (codeAny_call_builtin (R := wants (fun r t => r = .none ∧ ∃ g tt n, t = { s with heap := g, toks := tt } ∧ SetR w g s.heap.objs.size (fun j => decide (j ∈ zs)) n ∧ n ≤ zs.length ∧ ∀ b o, s.heap.get? b = some o → g.get? b = some o) E) k1.init.plain F.entry_set_init (check_set_init_1 tyS ?_)) fun out t2 told => ?_
    · obtain ⟨⟨oc, od, odt, osl⟩, atL, cl, nn, dt⟩ := isl
      simp only at cl dt
      subst cl dt
      have atL1 : (s.heap.push (eset w)).get? l = some { cls := .type "list", dict := od, data := .seq its nn, slots := osl } := Heap.get?_push_of_some _ atL
      have q1 := F.sub_list_set; have q2 := F.sub_list_frozenset
      have q3 : (Value.type "list" == Value.type "dict") = false := by decide
      have isl1 : (s.heap.push (eset w)).IsList l its := ⟨_, atL1, rfl, nn, rfl⟩
      unfold Builtin.«set.__init__» noKeywords Builtin.Frozenset.updateFrom
      generalize eP : pyIter = PP
      wp_walk
      subst eP
      refine wpAny_pyIter_list isl1 (wpAny_bind (wpAny_runValue ?_))
      have lo : l < s.heap.objs.size := Heap.lt_size atL
      have sz : (s.heap.push (eset w)).objs.size = s.heap.objs.size + 1 := Heap.size_push ..
      have calm3 : A.in1.in1.in1.handled = none := by simp [calm]
      have d1 : l ≠ (s.heap.push (eset w)).objs.size := by rw [sz]; exact Nat.ne_of_lt (Nat.lt_succ_of_lt lo)
      have d2 : s.heap.objs.size ∉ [(s.heap.push (eset w)).objs.size, l] := by
        rw [sz]
        simp only [List.mem_cons, List.not_mem_nil, or_false, not_or]
        exact ⟨Nat.ne_of_lt (Nat.lt_succ_self _), (Nat.ne_of_lt lo).symm⟩
      have vals : ∀ (i : Nat) (v : Value), its[i]? = some v → ∃ k t, zs[i]? = some k ∧ v = .int k t := fun i v hv => by
        have lt : i < zs.length := many ▸ (Array.getElem?_eq_some_iff.mp hv).1
        obtain ⟨t, ev⟩ := IntsAre.int_at hz i v (by simpa using hv)
        exact ⟨zs[i], t, List.getElem?_eq_getElem lt, by rw [ev, List.getD_eq_getElem?_getD, List.getElem?_eq_getElem lt] <;> rfl⟩
      refine set_update_ints ((Walks.list calm3 _ l d1 its).toS) s.heap.objs.size d2 zs many few vals (its.size - 0) 0 _ (by omega) (Nat.zero_le _) ⟨⟨_, Heap.get?_push_size _ rfl, rfl, rfl⟩, isl1.push _⟩ ⟨0, Nat.le_refl 0, setR_new_at (Heap.get?_push_of_some _ atS)⟩ fun t n mv hn R => ?_
      obtain ⟨g, gn, dr, tt, os⟩ := t
      obtain rfl : gn = s.gens := mv.gens
      obtain rfl : dr = s.drawn := mv.drawn
      obtain rfl : os = s.os := mv.os
      show wpAny _ _ _ _ _ _
      refine wpAny_pure (show wpAny _ _ (ret Value.none) _ _ _ from wpAny_pure ⟨rfl, g, tt, n, rfl, R, many ▸ hn, fun b o e => ?_⟩)
      have hb := Heap.lt_size e
      refine mv.heap b o ?_ (Heap.get?_push_of_some _ (Heap.get?_push_of_some _ e))
      simp only [List.mem_cons, List.not_mem_nil, or_false, not_or]
      rw [sz]
      exact ⟨Nat.ne_of_lt hb, Nat.ne_of_lt (Nat.lt_succ_of_lt hb)⟩
    · match out, told with
      | .error _, told => exact told
      | .ok .next, told => exact told.elim
      | .ok .brk, told => exact told.elim
      | .ok .cont, told => exact told.elim
      | .ok (.ret _), ⟨e1, g, tt, n, e2, R, hn, kp⟩ =>
        subst e1 e2
        repeat (any_goals (first | assumption | wp_step))
        exact fin _ _ _ R hn kp
end
section
variable {X : Cx}
def rSetOfL (K : PySem.W.Frag) (w : World) : List V → Hp → VK → Prop := fun xs H Q => ∃ (l : Addr) (ns : List Int), xs = [.ref l] ∧ SqL K H l (ns.map V.int) ∧ ns.length ≤ 4000 ∧ ∀ p n, H p = none → n ≤ ns.length → Q (.ref p) (upd H p (SetO w p (fun j => decide (j ∈ ns)) n))
theorem cr_setL (hc : X.calm = true) : CallR X (.type "set") (rSetOfL X.K X.w) := by
  intro pins s σ H xs us Q I r h
  obtain ⟨l, ns, rfl, hs, hn, q⟩ := h
  obtain ⟨its, rv, hl, _⟩ := I.list hs
  rw [Vals.ref1 r]
  refine set_from ns (I.ok.hd hc) hl.isList (by simpa using rv.ints) (by unfold scanBound; omega) fun g tt n R hle kp => ?_
  exact ⟨.ref _, upd H s.heap.objs.size (SetO X.w s.heap.objs.size (fun j => decide (j ∈ ns)) n), I.laid (t' := tt) kp (Nat.le_refl _) (setO_new R), rfl, q _ _ (I.hok.fresh (Nat.le_refl _)) hle⟩
end
end L2
/-! ### sorted(found) of a set of any number of ints -/
namespace L2
open PySem PySem.Spec PyProof.Rows
section
variable {P : Program} {w : World} {A : Around} {E : Value → Shared → Prop} {s : Shared}
theorem sorted_setB {a : Addr} {T : Int → Bool} {n : Nat} {Q : Value → Shared → Prop} (R : SetR w s.heap a T n) (calm : A.handled = none) (few : n ≤ 4000)
    (fin : ∀ (s2 : Shared) (p : Addr) (its : Array Value) (c : Nat) (ks : List Int), (∀ b o, s.heap.get? b = some o → s2.heap.get? b = some o) → s2.gens = s.gens → s2.os = s.os → s.heap.objs.size ≤ p → s2.heap.get? p = some (seqObj "list" its c) →
      IntsAre its.toList ks → ks.Pairwise (· < ·) → (∀ k, k ∈ ks ↔ T k = true) → ks.length = n → Q (.ref p) s2) : wpAny (model P w) A (call (.builtin "sorted") [.ref a]) Q E s := by
  obtain ⟨ob, rows, ep, tb, at1, ex1, dat, good, once, memb, pos, fits, size, ris, led⟩ := R
  refine Calls.call_function_entry kind_sorted plain_sorted entry_sorted (args_sorted1 _) ?_
  unfold Builtin.«sorted»
  refine wpAny_bind (m := checkCount "sorted" 1 1 _) (wpAny_pure (wpAny_bind (collect_set (A := A.in1) calm ⟨ob, at1, ex1.1, dat⟩ fits pos ris led fun s1 vs keep low g1 o1 per => ?_)))
  have many : vs.length = n := by
    rw [per.length_eq, List.length_map, Array.length_toList]
    exact size
  have line : vs.length ≤ sizeLine := by rw [many]; exact Nat.le_trans few (by decide +kernel)
  have numb : IntsAre vs (vs.map Builtin.Re.reRawOf) := ints_of vs fun u hu => by
    obtain ⟨row, hrow, eu⟩ := List.mem_map.mp (per.mem_iff.mp hu)
    obtain ⟨j, tj, ej, _⟩ := good row hrow
    exact ⟨j, tj, eu ▸ ej⟩
  have keys : (vs.map Builtin.Re.reRawOf).Perm (rows.toList.map keyOf) := by
    have z := per.map Builtin.Re.reRawOf
    rwa [List.map_map] at z
  refine wpAny_bind (wpAny_newList ?_ line)
  have made : (s1.heap.push (seqObj "list" vs.toArray 0)).get? s1.heap.objs.size = some (seqObj "list" vs.toArray 0) := Heap.get?_push_size _ rfl
  refine wpAny_bind (wpAny_holding (wpAny_call_entry slot_list_sort ⟨_, made, rfl⟩ entry_list_sort (SrtO.list_sort_ord SrtO.swo_int made line (fun two => SrtO.ints_sortable numb two) fun out so st => ⟨_, rfl, ?_⟩) (args_list_sort _)))
  obtain ⟨are, pout, asc⟩ := SrtO.ints_out numb so st
  obtain ⟨c, atC⟩ := sortedHeap_at (vs := vs) (out := out.toArray) made
  have pall : (out.map SrtO.iv).Perm (rows.toList.map keyOf) := pout.trans keys
  refine wpAny_pure ⟨_, rfl, fin _ s1.heap.objs.size out.toArray c _ (fun b u eb => ?_) g1 o1 low atC (by simpa using are) (lt_of_le_nodup _ asc (pall.nodup_iff.mpr once)) (fun k => by rw [pall.mem_iff, ← memb k]) (by rw [pall.length_eq, List.length_map, Array.length_toList, size])⟩
  have kb := keep b u eb
  have low2 := Heap.lt_size kb
  show (sortedHeap (s1.heap.push (seqObj "list" vs.toArray 0)) s1.heap.objs.size vs out.toArray).get? b = some u
  rw [sortedHeap_old (Nat.ne_of_lt low2) (by rw [size_push']; exact Nat.lt_of_lt_of_le low2 (Nat.le_succ _))]
  exact Heap.get?_push_of_some _ kb
end
section
variable {X : Cx}
def rSortedSetB (w : World) : List V → Hp → VK → Prop := fun vs H Q => ∃ (a : Addr) (T : Int → Bool) (n : Nat), vs = [V.ref a] ∧ H a = some (SetO w a T n) ∧ n ≤ 4000 ∧
  ∀ (ks : List Int) (p : Addr), ks.Pairwise (· < ·) → (∀ k : Int, k ∈ ks ↔ T k = true) → ks.length = n → H p = none → Q (.ref p) (upd H p (.lst (ks.map V.int)))
theorem cr_sortedSetB (hc : X.calm = true) : CallR X (.builtin "sorted") (rSortedSetB X.w) := by
  intro pins s σ H vs us Q I r h
  obtain ⟨a, T, n, rfl, ha, few, q⟩ := h
  have R := setO_get I ha
  rw [Vals.ref1 r]
  refine sorted_setB R (I.ok.hd hc) few fun s2 p its c ks keep g o hp hg hi hs hm hl => ?_
  have line : (ks.map V.int).length ≤ sizeLine := by rw [List.length_map, hl]; exact Nat.le_trans few (by decide +kernel)
  have J : Inv X pins σ (upd H p (.lst (ks.map V.int))) { s with heap := s2.heap, gens := s2.gens, drawn := s2.drawn, toks := s2.toks } :=
    I.call (ch := []) (Un.laid keep hp (I.hok.fresh hp)) (I.hok.laid keep hp ⟨line, its.toList, c, vals_of_ints hi, hg⟩) (by rw [g]; exact I.bare) (fun _ z => nomatch z)
  have e : s2 = { s with heap := s2.heap, gens := s2.gens, drawn := s2.drawn, toks := s2.toks } := by
    cases s2
    cases s
    cases o
    rfl
  rw [e]
  exact ⟨.ref p, _, J, rfl, q ks p hs hm hl (I.hok.fresh hp)⟩
end
end L2
namespace RS
open PySem L2
theorem kGT : ¬ (("_gaps" : Str) = "_tail") := by decide +kernel
theorem kGO : ¬ (("_gaps" : Str) = "_offsets") := by decide +kernel
theorem kTO : ¬ (("_tail" : Str) = "_offsets") := by decide +kernel
def flds (g t o : Addr) : List (Str × V) := putF "_offsets" (.ref o) (putF "_tail" (.ref t) (putF "_gaps" (.ref g) []))
theorem flds_g (g t o : Addr) : (flds g t o).lookup ("_gaps" : Str) = some (.ref g) := by
  unfold flds
  rw [lookup_putF, if_neg kGO, lookup_putF, if_neg kGT, lookup_putF, if_pos rfl]
theorem flds_t (g t o : Addr) : (flds g t o).lookup ("_tail" : Str) = some (.ref t) := by
  unfold flds
  rw [lookup_putF, if_neg kTO, lookup_putF, if_pos rfl]
theorem flds_o (g t o : Addr) : (flds g t o).lookup ("_offsets" : Str) = some (.ref o) := by
  unfold flds
  rw [lookup_putF, if_pos rfl]
theorem flds_no (g t o : Addr) {m : Str} (h1 : ¬ m = "_offsets") (h2 : ¬ m = "_tail") (h3 : ¬ m = "_gaps") : (flds g t o).lookup m = none := by
  unfold flds
  rw [lookup_putF, if_neg h1, lookup_putF, if_neg h2, lookup_putF, if_neg h3]
  rfl
/-- a rule stands at p -/
structure RuleAt (C : Addr) (H : Hp) (p g t o : Addr) (gs : List Int) (tl : Tl) : Prop where
  ob : ∃ dx, H p = some (.ins C dx (flds g t o))
  hg : H g = some (.lst (gs.map V.int))
  ht : H t = some (.tup tl.vs)
  ho : H o = some (.lst ((offs gs).map V.int))
  okG : GapsOk gs
  okT : TlOk gs.length tl
theorem RuleAt.mono {C : Addr} {H H' : Hp} {p g t o : Addr} {gs : List Int} {tl : Tl} (R : RuleAt C H p g t o gs tl) (h : Same H H') : RuleAt C H' p g t o gs tl :=
  ⟨let ⟨dx, e⟩ := R.ob; ⟨dx, h _ _ e⟩, h _ _ R.hg, h _ _ R.ht, h _ _ R.ho, R.okG, R.okT⟩
theorem map_of {xs : List Int} {i : Nat} {x : V} (hx : (xs.map V.int)[i]? = some x) : ∃ g, xs[i]? = some g ∧ x = .int g := by
  rw [List.getElem?_map] at hx
  cases e : xs[i]? with
  | none => rw [e] at hx; cases hx
  | some g => rw [e] at hx; exact ⟨g, rfl, (Option.some.inj hx).symm⟩

section
variable {P : Program} {w : World} {K : PySem.W.Frag} {mg : Str → Option Value} {base : Heap}
/-! ### _sums -/
def spSums : Sp := fun vs H Q _ => ∃ a gs, vs = [.ref a] ∧ H a = some (.lst (gs.map V.int)) ∧ gs.length ≤ 100 ∧ ∀ p H', H p = none → Same H H' → H' p = some (.lst ((offs gs).map V.int)) → Q (.ref p) H'
theorem scSums : FnScope ["gaps", "offsets", "gap"] ["gaps"] (defScope s_sums) := ⟨rfl, rfl, rfl, by decide +kernel, rfl, by decide +kernel, by decide +kernel⟩
theorem ok_sums {f : Addr} {fd : FuncData} (F : Fun K "sums" "sums" s_sums f fd) : FnOk P w K mg base CX0 1 f fd ["gaps"] spSums := by
  refine F.ok scSums (fun vs H Q E h => ?_) (fun cdv A outer s H vs Q E hr h => ?_)
  · obtain ⟨a, gs, rfl, _⟩ := h
    rfl
  · obtain ⟨a, gs, rfl, ha, hn, k⟩ := h
    refine ⟨_, (pss_cons (ps_set (i := 1) scSums.nd rfl (Or.inl rfl) (pe_lst (pa_cons pe_int pa_nil))) (pss_cons (ps_for PassesOwn.never rfl (pi_list (pv 0)) (pg_name (i := 2) scSums.nd rfl (Or.inl rfl)) (pss_one (ps_expr (pe_bm PySem.F.plainAttrs_list PySem.F.slot_list_append PySem.F.type_list_append mt_append (pv 1) (pa_cons (pe_op op_add (pe_ix ix_list (pv 1) (pe_un un_neg pe_int) (fun _ _ => rfl)) (pv 2)) pa_nil))))) (pss_one (ps_ret (pv 1))))), ?_⟩
    refine ⟨by show 1 ≤ sizeLine; decide, fun l hl => ?_⟩
    have S0 : Same H (upd H l (.lst [.int 0])) := same_new hl
    refine ⟨_, rfl, a, rfl, ⟨_, SqL.of (S0 _ _ ha)⟩, for_list (a := a) (xs := gs.map V.int) (fun i σ H' => ∃ v, σ = [some (.ref a), some (.ref l), v] ∧ Same H H' ∧ H' l = some (.lst (((List.range (i + 1)).map (pre gs)).map V.int))) ⟨none, rfl, S0, upd_same⟩ (fun i σ H' _ ⟨v, _, S, _⟩ => SqL.of (S _ _ ha)) ?_ ?_⟩
    · rintro i x σ H' hx ⟨v, rfl, S, hl'⟩
      obtain ⟨g, hg, rfl⟩ := map_of hx
      have hi : i < gs.length := (List.getElem?_eq_some_iff.mp hg).1
      have hz : (((List.range (i + 1)).map (pre gs)).map V.int).length = i + 1 := by simp
      refine ⟨_, rfl, .inl ⟨rfl, _, SqL.of hl'⟩, _, rfl, _, rfl, l, _, _, _, rfl, rfl, SqL.of hl', at_back1 (v := .int (pre gs i)) (by rw [hz]; omega) ?_, _, rfl, _, _, rfl, rfl, l, _, _, rfl, rfl, hl', by rw [hz]; exact small1000 (by omega), ?_⟩
      · rw [hz, List.getElem?_map, List.getElem?_map, List.getElem?_range (by omega)]
        rfl
      · refine ⟨_, rfl, fun b o e => ?_, ?_⟩
        · rw [upd_ne (ne_of_none e hl)]
          exact S b o e
        · rw [upd_same, List.range_succ (n := i + 1), List.map_append, List.map_append]
          show _ = some (HO.lst (_ ++ [V.int (pre gs (i + 1))]))
          rw [pre_succ gs hg]
    · rintro σ H' ⟨v, rfl, S, hl'⟩
      rw [List.length_map] at hl'
      exact ⟨_, rfl, k l H' hl S hl'⟩

/-! ### _power -/
def spPower : Sp := fun vs H Q _ => ∃ (b : Int) (e : Nat), vs = [.int b, .int (e : Int)] ∧ 0 ≤ b ∧ b < 1024 ∧ e ≤ 1024 ∧ Q (.int (b ^ e)) H
theorem scPower : FnScope ["base", "exponent", "result"] ["base", "exponent"] (defScope s_power) := ⟨rfl, rfl, rfl, by decide +kernel, rfl, by decide +kernel, by decide +kernel⟩
theorem pow_small {b : Int} {n : Nat} (h0 : 0 ≤ b) (h1 : b < 1024) (hn : n ≤ 2048) : (b ^ n).natAbs < 2 ^ 20481 := by
  rw [Int.natAbs_pow]
  have h2 : b.natAbs ≤ 2 ^ 10 := by omega
  have h3 : b.natAbs ^ n ≤ (2 ^ 10) ^ n := Nat.pow_le_pow_left h2 n
  rw [← Nat.pow_mul] at h3
  have h4 : 2 ^ (10 * n) < 2 ^ 20481 := Nat.pow_lt_pow_right (by decide) (by omega)
  omega
theorem half_mod (e k : Nat) : e % 2 ^ (k + 1) = e % 2 ^ k + 2 ^ k * (e / 2 ^ k % 2) := by
  rw [Nat.pow_succ, Nat.mod_mul]
theorem half_div (e k : Nat) : e / 2 ^ k / 2 = e / 2 ^ (k + 1) := by
  rw [Nat.pow_succ, Nat.div_div_eq_div_mul]
theorem ok_power {f : Addr} {fd : FuncData} (F : Fun K "_power" "_power" s_power f fd) : FnOk P w K mg base CX0 1 f fd ["base", "exponent"] spPower := by
  refine F.ok scPower (fun vs H Q E h => ?_) (fun cdv A outer s H vs Q E hr h => ?_)
  · obtain ⟨b, e, rfl, _⟩ := h
    rfl
  · obtain ⟨b, e, rfl, b0, b1, he, k⟩ := h
    refine ⟨_, (pss_cons (ps_set (i := 2) scPower.nd rfl (Or.inl rfl) pe_int) (pss_cons (ps_while PassesOwn.never (pt_cmpR op_gt (pv 1) pe_int (nomark _)) (pss_cons (ps_if (pt_cmpR op_eq (pe_op op_odd (pv 1) pe_int) pe_int (nomark _)) (pss_one (ps_set (i := 2) scPower.nd rfl (Or.inl rfl) (pe_op op_mulW (pv 2) (pv 0)))) pss_nil) (pss_cons (ps_set (i := 0) scPower.nd rfl (Or.inl rfl) (pe_op op_mulW (pv 0) (pv 0))) (pss_one (ps_set (i := 1) scPower.nd rfl (Or.inl rfl) (pe_op op_halfN (pv 1) pe_int)))))) (pss_one (ps_ret (pv 2))))), ?_⟩
    refine ⟨fun m σ H' => H' = H ∧ ∃ j, m = e / 2 ^ j ∧ σ = [some (.int (b ^ (2 ^ j))), some (.int ((e / 2 ^ j : Nat) : Int)), some (.int (b ^ (e % 2 ^ j)))], ⟨e, rfl, 0, by simp, by simp [L2.start, Nat.mod_one]; rw [Int.pow_succ, Int.pow_zero, Int.one_mul]⟩, ?_⟩
    rintro m σ H' ⟨rfl, j, rfl, rfl⟩
    refine ⟨_, rfl, _, _, rfl, rfl, _, rfl, ?_⟩
    by_cases hz : 0 < e / 2 ^ j
    · refine iteTb (decide_eq_true (by omega)) ?_
      have hj : 2 ^ j ≤ e := by
        by_cases hlt : e < 2 ^ j
        · rw [Nat.div_eq_of_lt hlt] at hz; omega
        · omega
      have hj1 : (b ^ (2 ^ j)).natAbs < 2 ^ 20481 := pow_small b0 b1 (by omega)
      have hm : e % 2 ^ j < 2 ^ j := Nat.mod_lt _ (Nat.pow_pos (by decide))
      have hr1 : (b ^ (e % 2 ^ j)).natAbs < 2 ^ 20481 := pow_small b0 b1 (by omega)
      refine ⟨fun σ' H2 => H2 = H' ∧ σ' = [some (.int (b ^ (2 ^ (j + 1)))), some (.int ((e / 2 ^ (j + 1) : Nat) : Int)), some (.int (b ^ (e % 2 ^ (j + 1))))], ?_, ?_⟩
      · rintro σ' H2 ⟨rfl, rfl⟩
        refine ⟨e / 2 ^ (j + 1), ?_, rfl, j + 1, rfl, rfl⟩
        rw [← half_div]
        omega
      · have e2 : b ^ 2 ^ j * b ^ 2 ^ j = b ^ 2 ^ (j + 1) := by
          rw [← Int.pow_add, Nat.pow_succ, Nat.mul_two]
        refine ⟨_, rfl, e / 2 ^ j, rfl, rfl, rfl, _, rfl, ?_⟩
        rcases Nat.mod_two_eq_zero_or_one (e / 2 ^ j) with h2 | h2
        · refine iteFb (decide_eq_false (by rw [h2]; intro z; cases z)) ?_
          refine ⟨_, rfl, _, rfl, _, _, rfl, rfl, wide_mul hj1 hj1 (by decide) (by decide) (by decide), ?_⟩
          refine ⟨_, rfl, e / 2 ^ j, rfl, rfl, rfl, ?_⟩
          rw [half_mod, h2, Nat.mul_zero, Nat.add_zero, ← half_div, ← e2]
          rfl
        · refine iteTb (decide_eq_true (by rw [h2]; rfl)) ?_
          refine ⟨_, rfl, _, rfl, _, _, rfl, rfl, wide_mul hr1 hj1 (by decide) (by decide) (by decide), ?_⟩
          refine ⟨_, rfl, _, rfl, _, _, rfl, rfl, wide_mul hj1 hj1 (by decide) (by decide) (by decide), ?_⟩
          refine ⟨_, rfl, e / 2 ^ j, rfl, rfl, rfl, ?_⟩
          rw [half_mod, h2, Nat.mul_one, Int.pow_add, ← half_div, ← e2]
          rfl
    · refine iteFb (decide_eq_false (by omega)) ?_
      have hlt : e % 2 ^ j = e := by
        refine Nat.mod_eq_of_lt ?_
        have := Nat.lt_div_mul_add (a := e) (b := 2 ^ j) (Nat.pow_pos (by decide))
        have h0 : e / 2 ^ j = 0 := Nat.eq_zero_of_not_pos hz
        rw [h0] at this
        omega
      refine ⟨_, rfl, ?_⟩
      rw [hlt]
      exact k
end
end RS
namespace RS
open PySem L2
def Tl.word : Tl → Str
  | .fin => "end"
  | .times _ => "times"
  | .rep _ => "repeat"
theorem Tl.at0 (tl : Tl) : atI tl.vs 0 = some (.str tl.word) := by cases tl <;> exact atI_nat (j := 0) rfl
theorem wEE : decide (V.str "end" = V.str "end") = true := by decide +kernel
theorem wET : decide (V.str "end" = V.str "times") = false := by decide +kernel
theorem wER : decide (V.str "end" = V.str "repeat") = false := by decide +kernel
theorem wTE : decide (V.str "times" = V.str "end") = false := by decide +kernel
theorem wTT : decide (V.str "times" = V.str "times") = true := by decide +kernel
theorem wTR : decide (V.str "times" = V.str "repeat") = false := by decide +kernel
theorem wRE : decide (V.str "repeat" = V.str "end") = false := by decide +kernel
theorem wRT : decide (V.str "repeat" = V.str "times") = false := by decide +kernel
theorem wRR : decide (V.str "repeat" = V.str "repeat") = true := by decide +kernel
def lastG (gs : List Int) : Int := gs.getD (gs.length - 1) 0
def per (gs : List Int) (m : Nat) : Int := pre gs gs.length - pre gs (gs.length - m)
def off (gs : List Int) (tl : Tl) (n : Nat) : Int :=
  if n ≤ gs.length then pre gs n else match tl with
  | .fin => 0
  | .times b => pre gs gs.length + lastG gs * b * (b ^ (n - gs.length) - 1) / (b - 1)
  | .rep m => pre gs (gs.length - m + (n - gs.length) % m) + (((n - gs.length) / m : Nat) + 1) * per gs m
def gapf (gs : List Int) (tl : Tl) (n : Nat) : Int :=
  if n < gs.length then gs.getD n 0 else match tl with
  | .fin => 0
  | .times b => lastG gs * b ^ (n - gs.length + 1)
  | .rep m => gs.getD (gs.length - m + (n - gs.length) % m) 0
/-- an attempt that is answered -/
def AttOk (gs : List Int) (tl : Tl) (n : Nat) : Prop := match tl with
  | .fin => n ≤ gs.length
  | .times _ => n ≤ 1000
  | .rep _ => True
theorem AttOk.low {gs : List Int} {tl : Tl} (okG : GapsOk gs) {n : Nat} (h : n ≤ gs.length) : AttOk gs tl n := by
  cases tl with
  | fin => exact h
  | times b => have := okG.1; show n ≤ 1000; omega
  | rep m => exact True.intro
theorem getD_get {gs : List Int} {k : Nat} (h : k < gs.length) : gs[k]? = some (gs.getD k 0) := by
  rw [List.getD_eq_getElem?_getD, List.getElem?_eq_getElem h]
  rfl
theorem gap_bd {gs : List Int} (ok : GapsOk gs) {k : Nat} (h : k < gs.length) : 1 ≤ gs.getD k 0 ∧ gs.getD k 0 ≤ 1000000000000 := ok.2 _ (List.mem_of_getElem? (getD_get h))
theorem pre_le {gs : List Int} (ok : GapsOk gs) : ∀ k, k ≤ gs.length → (k : Int) ≤ pre gs k ∧ pre gs k ≤ 1000000000000 * k
  | 0, _ => by rw [pre_zero]; omega
  | k + 1, h => by
    have ih := pre_le ok k (by omega)
    have b := gap_bd ok (k := k) (by omega)
    rw [pre_succ gs (getD_get (by omega))]
    omega
theorem pre_mono {gs : List Int} (ok : GapsOk gs) (i : Nat) : ∀ k, i + k ≤ gs.length → pre gs i + k ≤ pre gs (i + k)
  | 0, _ => by simp
  | k + 1, h => by
    have ih := pre_mono ok i k (by omega)
    have b := gap_bd ok (k := i + k) (by omega)
    rw [show i + (k + 1) = (i + k) + 1 by omega, pre_succ gs (getD_get (by omega))]
    omega
theorem per_bd {gs : List Int} (ok : GapsOk gs) {m : Nat} (h1 : 1 ≤ m) (h2 : m ≤ gs.length) : (m : Int) ≤ per gs m ∧ per gs m ≤ 20000000000000 := by
  have a := pre_mono ok (gs.length - m) m (by omega)
  have b := pre_le ok (gs.length - m) (by omega)
  have c := pre_le ok gs.length (Nat.le_refl _)
  have d := ok.1
  rw [show gs.length - m + m = gs.length by omega] at a
  unfold per
  omega

section
variable {P : Program} {w : World} {K : PySem.W.Frag} {mg : Str → Option Value} {base : Heap}
/-! ### a rule's attributes, read -/
section
variable {C p g t o : Addr} {gs : List Int} {tl : Tl} {H : Hp} {σ : L2.St} {i : Nat}
theorem rdG {Q : VK} (T : Txt K mg C) (R : RuleAt C H p g t o gs tl) (hi : σ[i]? = some (some (.ref p))) (q : Q (.ref g) H) : tFld K (tVar i) "_gaps" σ H Q := by
  obtain ⟨dx, h⟩ := R.ob
  exact ⟨_, hi, p, C, dx, _, _, rfl, h, T.cl, T.nG, flds_g _ _ _, q⟩
theorem rdT {Q : VK} (T : Txt K mg C) (R : RuleAt C H p g t o gs tl) (hi : σ[i]? = some (some (.ref p))) (q : Q (.ref t) H) : tFld K (tVar i) "_tail" σ H Q := by
  obtain ⟨dx, h⟩ := R.ob
  exact ⟨_, hi, p, C, dx, _, _, rfl, h, T.cl, T.nT, flds_t _ _ _, q⟩
theorem rdO {Q : VK} (T : Txt K mg C) (R : RuleAt C H p g t o gs tl) (hi : σ[i]? = some (some (.ref p))) (q : Q (.ref o) H) : tFld K (tVar i) "_offsets" σ H Q := by
  obtain ⟨dx, h⟩ := R.ob
  exact ⟨_, hi, p, C, dx, _, _, rfl, h, T.cl, T.nO, flds_o _ _ _, q⟩
theorem rdOx {te : TE} {Q : VK} (T : Txt K mg C) (R : RuleAt C H p g t o gs tl) (hi : σ[i]? = some (some (.ref p))) (q : te σ H fun y H2 => rIxL K (.ref o) y H2 Q) : tOp (rIxL K) (tFld K (tVar i) "_offsets") te σ H Q := by
  dsimp only [tOp]
  exact rdO T R hi q
theorem rdGx {te : TE} {Q : VK} (T : Txt K mg C) (R : RuleAt C H p g t o gs tl) (hi : σ[i]? = some (some (.ref p))) (q : te σ H fun y H2 => rIxL K (.ref g) y H2 Q) : tOp (rIxL K) (tFld K (tVar i) "_gaps") te σ H Q := by
  dsimp only [tOp]
  exact rdG T R hi q
theorem rdIs {s : Str} {Q : Bool → Hp → Prop} (T : Txt K mg C) (R : RuleAt C H p g t o gs tl) (hi : σ[i]? = some (some (.ref p))) (q : Q (decide (V.str tl.word = V.str s)) H) :
    tTest (tOp rEq (tOp (rIxT K) (tFld K (tVar i) "_tail") (tC (.int 0))) (tC (.str s))) σ H Q := by
  dsimp only [tTest, tOp]
  exact rdT T R hi ⟨t, _, _, _, rfl, rfl, SqT.of R.ht, tl.at0, rfl, _, rfl, q⟩
theorem rdNe {s : Str} {Q : Bool → Hp → Prop} (T : Txt K mg C) (R : RuleAt C H p g t o gs tl) (hi : σ[i]? = some (some (.ref p))) (q : Q (!decide (V.str tl.word = V.str s)) H) :
    tTest (tOp rNe (tOp (rIxT K) (tFld K (tVar i) "_tail") (tC (.int 0))) (tC (.str s))) σ H Q := by
  dsimp only [tTest, tOp]
  exact rdT T R hi ⟨t, _, _, _, rfl, rfl, SqT.of R.ht, tl.at0, rfl, _, rfl, q⟩
theorem rdB {b : Int} {Q : VK} (T : Txt K mg C) (R : RuleAt C H p g t o gs (.times b)) (hi : σ[i]? = some (some (.ref p))) (q : Q (.int b) H) : tOp (rIxT K) (tFld K (tVar i) "_tail") (tC (.int 1)) σ H Q :=
  rdT T R hi ⟨t, _, _, _, rfl, rfl, SqT.of R.ht, atI_nat (j := 1) rfl, q⟩
theorem rdN {m : Nat} {Q : VK} (T : Txt K mg C) (R : RuleAt C H p g t o gs (.rep m)) (hi : σ[i]? = some (some (.ref p))) (q : Q (.int (m : Int)) H) : tOp (rIxT K) (tFld K (tVar i) "_tail") (tC (.int 1)) σ H Q :=
  rdT T R hi ⟨t, _, _, _, rfl, rfl, SqT.of R.ht, atI_nat (j := 1) rfl, q⟩
theorem rdLast {Q : VK} (T : Txt K mg C) (R : RuleAt C H p g t o gs tl) (hi : σ[i]? = some (some (.ref p))) (h0 : 0 < gs.length) (q : Q (.int (lastG gs)) H) :
    tOp (rIxL K) (tFld K (tVar i) "_gaps") (tUn (rU fun i => .int (-i)) (tC (.int 1))) σ H Q :=
  rdG T R hi ⟨_, rfl, g, _, _, _, rfl, rfl, SqL.of R.hg, at_back1 (by rw [List.length_map]; exact h0) (by rw [List.length_map, List.getElem?_map, getD_get (by omega)]; rfl), q⟩
theorem rdLastO {Q : VK} (T : Txt K mg C) (R : RuleAt C H p g t o gs tl) (hi : σ[i]? = some (some (.ref p))) (q : Q (.int (pre gs gs.length)) H) :
    tOp (rIxL K) (tFld K (tVar i) "_offsets") (tUn (rU fun i => .int (-i)) (tC (.int 1))) σ H Q :=
  rdO T R hi ⟨_, rfl, o, _, _, _, rfl, rfl, SqL.of R.ho, at_back1 (by rw [List.length_map, offs_len]; omega) (by rw [List.length_map, offs_len, List.getElem?_map, offs_get gs (by omega)]; rfl), q⟩
end
/-! ### Rule.__init__ -/
def spInit (C : Addr) : Sp := fun vs H Q _ => ∃ (p dx a t : Addr) (gs : List Int) (tl : Tl), vs = [.ref p, .ref a, .ref t] ∧ H p = some (.ins C dx []) ∧ H a = some (.lst (gs.map V.int)) ∧ H t = some (.tup tl.vs) ∧ GapsOk gs ∧ TlOk gs.length tl ∧
  ∀ (g o : Addr) (H' : Hp), H g = none → H o = none → (∀ b u, H b = some u → b ≠ p → H' b = some u) → RuleAt C H' p g t o gs tl → Q .non H'
theorem scInit : FnScope ["self", "gaps", "tail"] ["self", "gaps", "tail"] (defScope s_Rule_ddinitdd) := ⟨rfl, rfl, rfl, by decide +kernel, rfl, by decide +kernel, by decide +kernel⟩
theorem ok_init {f C fA fB fS fi : Addr} {fd fdA fdB fdS fdi : FuncData} (F : Fun K "__init__" "Rule.__init__" s_Rule_ddinitdd f fd) (T : Txt K mg C) (FI : Fun K "is_integer" "is_integer" s_is_integer fi fdi) (bI : Binds K fdi ["value"] []) (mI : mg "is_integer" = some (.ref fi))
    (FA : Fun K "are_gaps" "are_gaps" s_are_gaps fA fdA) (bA : Binds K fdA ["value", "most"] []) (mA : mg "are_gaps" = some (.ref fA)) (FB : Fun K "_is_tail" "_is_tail" s_is_tail fB fdB) (bB : Binds K fdB ["value", "many"] []) (mB : mg "_is_tail" = some (.ref fB))
    (FS : Fun K "sums" "sums" s_sums fS fdS) (bS : Binds K fdS ["gaps"] []) (mS : mg "sums" = some (.ref fS)) : FnOk P w K mg base CX0 3 f fd ["self", "gaps", "tail"] (spInit C) := by
  have GA : FnOk P w K mg base CX0 2 fA fdA ["value", "most"] spAreGaps := ok_areGaps FA T FI bI mI
  have GB : FnOk P w K mg base CX0 2 fB fdB ["value", "many"] spIsTail := ok_isTail FB T FI bI mI
  have GS : FnOk P w K mg base CX0 1 fS fdS ["gaps"] spSums := ok_sums FS
  obtain ⟨t1, m1⟩ := T.mMost
  refine F.ok scInit (fun vs H Q E h => ?_) (fun cdv A outer s H vs Q E hr h => ?_)
  · obtain ⟨p, dx, a, t, gs, tl, rfl, _⟩ := h
    rfl
  · obtain ⟨p, dx, a, t, gs, tl, rfl, hp, ha, ht, okG, okT, k⟩ := h
    refine ⟨_, (pss_cons (ps_if (pt_not (pt_val (pe_call GA hr rfl mA FA.kp bA .nil pass0 (pa_cons (pv 1) (pa_cons (pe_glob (v := .int 20) rfl m1 ⟨_, rfl⟩) pa_nil))))) (pss_one ps_never) pss_nil) (pss_cons (ps_if (pt_not (pt_val (pe_call GB hr rfl mB FB.kp bB .nil pass0 (pa_cons (pv 2) (pa_cons (pe_callB call_len_seq (by rfl) T.len (by decide +kernel) (pa_cons (pv 1) pa_nil)) pa_nil))))) (pss_one ps_never) pss_nil) (pss_cons (ps_fld (pv 0) (pe_callTy call_list_of (by rfl) T.list (by decide +kernel) (pa_cons (pv 1) pa_nil)) rfl) (pss_cons (ps_fld (pv 0) (pe_callTy call_tuple_of (by rfl) T.tuple (by decide +kernel) (pa_cons (pv 2) pa_nil)) rfl) (pss_one (ps_fld (pv 0) (pe_call GS (hr.mono (by decide)) rfl mS FS.kp bS .nil pass0 (pa_cons (pe_fld (pv 0) rfl) pa_nil)) rfl)))))), ?_⟩
    refine ⟨_, rfl, a, gs, 20, rfl, ha, okG, okG.1, fun H1 S1 => ⟨true, rfl, iteF ?_⟩⟩
    refine ⟨_, rfl, _, rfl, a, _, rfl, .inl (SqL.of (S1 _ _ ha)), t, tl, gs.length, ?_, S1 _ _ ht, okT, fun H2 S2 => ⟨true, rfl, iteF ?_⟩⟩
    · rw [List.length_map]
      rfl
    have S := S1.trans S2
    refine ⟨_, rfl, a, _, rfl, .inl (SqL.of (S _ _ ha)), fun g hg2 => ?_⟩
    have hg : H g = none := S.free hg2
    have npg : p ≠ g := ne_of_none hp hg
    have ntg : t ≠ g := ne_of_none ht hg
    have nag : a ≠ g := ne_of_none ha hg
    have npt : t ≠ p := ne_of ht hp (by intro z; cases z)
    have npa : a ≠ p := ne_of ha hp (by intro z; cases z)
    refine ⟨_, rfl, p, C, dx, [], rfl, (by rw [upd_ne npg]; exact S _ _ hp), T.cl, T.nG, (by show 0 < 1000; decide), ?_⟩
    refine ⟨_, rfl, t, _, rfl, .inr ⟨SqT.of (by rw [upd_ne npt, upd_ne ntg]; exact S _ _ ht), ?_⟩⟩
    refine ⟨_, rfl, p, C, dx, _, rfl, upd_same, T.cl, T.nT, (by show 1 < 1000; decide), ?_⟩
    have hgl : (putF "_tail" (.ref t) (putF "_gaps" (.ref g) [])).lookup ("_gaps" : Str) = some (V.ref g) := by
      rw [lookup_putF, if_neg kGT, lookup_putF, if_pos rfl]
    refine ⟨_, rfl, p, C, dx, _, _, rfl, upd_same, T.cl, T.nG, hgl, ?_⟩
    refine ⟨g, gs, rfl, (by rw [upd_ne npg.symm, upd_ne npg.symm, upd_same]), (by have := okG.1; omega), fun o H3 ho S3 ho3 => ?_⟩
    have hp3 := S3 _ _ (upd_same (H := upd (upd H2 g (.lst (gs.map V.int))) p (.ins C dx (putF "_gaps" (.ref g) []))) (a := p) (o := .ins C dx (putF "_tail" (.ref t) (putF "_gaps" (.ref g) []))))
    have npo : p ≠ o := ne_of_none (upd_same (H := upd (upd H2 g (.lst (gs.map V.int))) p (.ins C dx (putF "_gaps" (.ref g) []))) (a := p)) ho
    have ngo : g ≠ o := by
      refine ne_of_none (H := upd (upd (upd H2 g (.lst (gs.map V.int))) p (.ins C dx (putF "_gaps" (.ref g) []))) p (.ins C dx (putF "_tail" (.ref t) (putF "_gaps" (.ref g) [])))) (o := .lst (gs.map V.int)) ?_ ho
      rw [upd_ne npg.symm, upd_ne npg.symm, upd_same]
    have hoH : H o = none := by
      refine S.free ?_
      rw [upd_ne npo.symm, upd_ne npo.symm, upd_ne ngo.symm] at ho
      exact ho
    refine ⟨_, rfl, p, C, dx, _, rfl, hp3, T.cl, T.nO, (by show 2 < 1000; decide), ?_⟩
    refine k g o _ hg hoH (fun b u e nb => ?_) ⟨⟨dx, upd_same⟩, ?_, ?_, ?_, okG, okT⟩
    · rw [upd_ne nb]
      refine S3 _ _ ?_
      rw [upd_ne nb, upd_ne nb, upd_ne (ne_of_none e hg)]
      exact S _ _ e
    · rw [upd_ne npg.symm]
      refine S3 _ _ ?_
      rw [upd_ne npg.symm, upd_ne npg.symm, upd_same]
    · rw [upd_ne npt]
      refine S3 _ _ ?_
      rw [upd_ne npt, upd_ne npt, upd_ne ntg]
      exact S _ _ ht
    · rw [upd_ne npo.symm]
      exact ho3

end
end RS
namespace RS
open PySem L2
section
variable {P : Program} {w : World} {K : PySem.W.Frag} {mg : Str → Option Value} {base : Heap}
/-! ### attempts, _first_repeating, period -/
def attV (gs : List Int) : Tl → V
  | .fin => .int ((gs.length : Int) + 1)
  | _ => .non
def spAtt (C : Addr) : Sp := fun vs H Q _ => ∃ (p g t o : Addr) (gs : List Int) (tl : Tl), vs = [.ref p] ∧ RuleAt C H p g t o gs tl ∧ Q (attV gs tl) H
theorem scSelf_attempts : FnScope ["self"] ["self"] (defScope s_Rule_attempts) := ⟨rfl, rfl, rfl, by decide +kernel, rfl, by decide +kernel, by decide +kernel⟩
theorem ok_attempts {f C : Addr} {fd : FuncData} (F : Fun K "attempts" "Rule.attempts" s_Rule_attempts f fd) (T : Txt K mg C) : FnOk P w K mg base CX0 1 f fd ["self"] (spAtt C) := by
  refine F.ok scSelf_attempts (fun vs H Q E h => ?_) (fun cdv A outer s H vs Q E hr h => ?_)
  · obtain ⟨p, g, t, o, gs, tl, rfl, _⟩ := h
    rfl
  · obtain ⟨p, g, t, o, gs, tl, rfl, R, k⟩ := h
    refine ⟨_, (pss_cons (ps_if (pt_cmpR op_eq (pe_ix ix_tup (pe_fld (pv 0) rfl) pe_int (fun _ _ => rfl)) pe_str (nomark _)) (pss_one (ps_ret (pe_callB call_len_seq (by rfl) T.len (by decide +kernel) (pa_cons (pe_fld (pv 0) rfl) pa_nil)))) pss_nil) (pss_one (ps_ret pe_non))), ?_⟩
    refine rdIs T R rfl ?_
    cases tl with
    | fin =>
      refine iteTb wEE ?_
      refine rdO T R rfl ⟨o, _, rfl, .inl (SqL.of R.ho), ?_⟩
      rw [List.length_map, offs_len]
      exact k
    | times b => exact iteFb wTE k
    | rep m => exact iteFb wRE k
def spFR (C : Addr) : Sp := fun vs H Q _ => ∃ (p g t o : Addr) (gs : List Int) (m : Nat), vs = [.ref p] ∧ RuleAt C H p g t o gs (.rep m) ∧ Q (.int ((gs.length - m : Nat) : Int)) H
theorem scSelf_fr : FnScope ["self"] ["self"] (defScope s_Rule_first_repeating) := ⟨rfl, rfl, rfl, by decide +kernel, rfl, by decide +kernel, by decide +kernel⟩
def frV (gs : List Int) : Tl → V
  | .rep m => .int ((gs.length - m : Nat) : Int)
  | _ => .non
def spFRA (C : Addr) : Sp := fun vs H Q _ => ∃ (p g t o : Addr) (gs : List Int) (tl : Tl), vs = [.ref p] ∧ RuleAt C H p g t o gs tl ∧ Q (frV gs tl) H
theorem ok_frA {f C : Addr} {fd : FuncData} (F : Fun K "first_repeating" "Rule.first_repeating" s_Rule_first_repeating f fd) (T : Txt K mg C) : FnOk P w K mg base CX0 1 f fd ["self"] (spFRA C) := by
  refine F.ok scSelf_fr (fun vs H Q E h => ?_) (fun cdv A outer s H vs Q E hr h => ?_)
  · obtain ⟨p, g, t, o, gs, tl, rfl, _⟩ := h
    rfl
  · obtain ⟨p, g, t, o, gs, tl, rfl, R, k⟩ := h
    refine ⟨_, (pss_cons (ps_if (pt_cmpR op_ne (pe_ix ix_tup (pe_fld (pv 0) rfl) pe_int (fun _ _ => rfl)) pe_str (nomark _)) (pss_one (ps_ret pe_non)) pss_nil) (pss_one (ps_ret (pe_op op_sub (pe_callB call_len_seq (by rfl) T.len (by decide +kernel) (pa_cons (pe_fld (pv 0) rfl) pa_nil)) (pe_ix ix_tup (pe_fld (pv 0) rfl) pe_int (fun _ _ => rfl)))))), ?_⟩
    refine rdNe T R rfl ?_
    cases tl with
    | fin => exact iteTb (congrArg not wER) k
    | times b => exact iteTb (congrArg not wTR) k
    | rep m =>
      refine iteFb (congrArg not wRR) ?_
      refine rdG T R rfl ⟨g, _, rfl, .inl (SqL.of R.hg), rdN T R rfl ⟨_, _, rfl, rfl, ?_⟩⟩
      have e : ((((gs.map V.int).length : Nat) : Int) - (m : Int)) = ((gs.length - m : Nat) : Int) := by
        have := R.okT.2
        rw [List.length_map]
        omega
      have k' : Q (.int ((gs.length - m : Nat) : Int)) H := k
      rw [← e] at k'
      exact k'
theorem ok_fr {f C : Addr} {fd : FuncData} (F : Fun K "first_repeating" "Rule.first_repeating" s_Rule_first_repeating f fd) (T : Txt K mg C) : FnOk P w K mg base CX0 1 f fd ["self"] (spFR C) := by
  refine F.ok scSelf_fr (fun vs H Q E h => ?_) (fun cdv A outer s H vs Q E hr h => ?_)
  · obtain ⟨p, g, t, o, gs, tl, rfl, _⟩ := h
    rfl
  · obtain ⟨p, g, t, o, gs, m, rfl, R, k⟩ := h
    refine ⟨_, (pss_cons (ps_if (pt_cmpR op_ne (pe_ix ix_tup (pe_fld (pv 0) rfl) pe_int (fun _ _ => rfl)) pe_str (nomark _)) (pss_one (ps_ret pe_non)) pss_nil) (pss_one (ps_ret (pe_op op_sub (pe_callB call_len_seq (by rfl) T.len (by decide +kernel) (pa_cons (pe_fld (pv 0) rfl) pa_nil)) (pe_ix ix_tup (pe_fld (pv 0) rfl) pe_int (fun _ _ => rfl)))))), ?_⟩
    refine rdNe T R rfl (iteFb (congrArg not wRR) ?_)
    refine rdG T R rfl ⟨g, _, rfl, .inl (SqL.of R.hg), rdN T R rfl ⟨_, _, rfl, rfl, ?_⟩⟩
    have e : ((((gs.map V.int).length : Nat) : Int) - (m : Int)) = ((gs.length - m : Nat) : Int) := by
      have := R.okT.2
      rw [List.length_map]
      omega
    rw [← e] at k
    exact k
end
end RS
namespace RS
open PySem L2
section
variable {P : Program} {w : World} {K : PySem.W.Frag} {mg : Str → Option Value} {base : Heap}
def perV (gs : List Int) : Tl → V
  | .rep m => .int (per gs m)
  | _ => .non
def spPer (C : Addr) : Sp := fun vs H Q _ => ∃ (p g t o : Addr) (gs : List Int) (tl : Tl), vs = [.ref p] ∧ RuleAt C H p g t o gs tl ∧ Q (perV gs tl) H
theorem scSelf_per : FnScope ["self"] ["self"] (defScope s_Rule_period) := ⟨rfl, rfl, rfl, by decide +kernel, rfl, by decide +kernel, by decide +kernel⟩
theorem ok_per {f C fR : Addr} {fd fdR : FuncData} (F : Fun K "period" "Rule.period" s_Rule_period f fd) (T : Txt K mg C) (FR : Fun K "first_repeating" "Rule.first_repeating" s_Rule_first_repeating fR fdR) (bR : Binds K fdR ["self"] []) (mR : Meth K C "first_repeating" fR) : FnOk P w K mg base CX0 2 f fd ["self"] (spPer C) := by
  have GR : FnOk P w K mg base CX0 1 fR fdR ["self"] (spFR C) := ok_fr FR T
  refine F.ok scSelf_per (fun vs H Q E h => ?_) (fun cdv A outer s H vs Q E hr h => ?_)
  · obtain ⟨p, g, t, o, gs, tl, rfl, _⟩ := h
    rfl
  · obtain ⟨p, g, t, o, gs, tl, rfl, R, k⟩ := h
    refine ⟨_, (pss_cons (ps_if (pt_cmpR op_ne (pe_ix ix_tup (pe_fld (pv 0) rfl) pe_int (fun _ _ => rfl)) pe_str (nomark _)) (pss_one (ps_ret pe_non)) pss_nil) (pss_one (ps_ret (pe_op op_sub (pe_ix ix_list (pe_fld (pv 0) rfl) (pe_un un_neg pe_int) (fun _ _ => rfl)) (pe_ix ix_list (pe_fld (pv 0) rfl) (pe_meth0 (pv 0) T.cl mR GR hr bR .nil pass0) (fun _ _ => rfl)))))), ?_⟩
    refine rdNe T R rfl ?_
    cases tl with
    | fin => exact iteTb (congrArg not wER) k
    | times b => exact iteTb (congrArg not wTR) k
    | rep m =>
      refine iteFb (congrArg not wRR) ?_
      refine rdLastO T R rfl (rdO T R rfl ?_)
      obtain ⟨dx, hob⟩ := R.ob
      refine ⟨_, rfl, p, dx, _, rfl, hob, flds_no _ _ _ (by decide +kernel) (by decide +kernel) (by decide +kernel), p, g, t, o, gs, m, rfl, R, ?_⟩
      exact ⟨o, _, _, _, rfl, rfl, SqL.of R.ho, at_map (offs_get gs (by omega)), _, _, rfl, rfl, k⟩
end
end RS
namespace RS
open PySem L2
section
variable {P : Program} {w : World} {K : PySem.W.Frag} {mg : Str → Option Value} {base : Heap}
/-! ### Rule.gaps, tail, least_gap -/
def spGaps (C : Addr) : Sp := fun vs H Q _ => ∃ (p g t o : Addr) (gs : List Int) (tl : Tl), vs = [.ref p] ∧ RuleAt C H p g t o gs tl ∧ ∀ l, H l = none → Q (.ref l) (upd H l (.lst (gs.map V.int)))
theorem scGaps : FnScope ["self"] ["self"] (defScope s_Rule_gaps) := ⟨rfl, rfl, rfl, by decide +kernel, rfl, by decide +kernel, by decide +kernel⟩
theorem ok_gaps {f C : Addr} {fd : FuncData} (F : Fun K "gaps" "Rule.gaps" s_Rule_gaps f fd) (T : Txt K mg C) : FnOk P w K mg base CX0 1 f fd ["self"] (spGaps C) := by
  refine F.ok scGaps (fun vs H Q E h => ?_) (fun cdv A outer s H vs Q E hr h => ?_)
  · obtain ⟨p, g, t, o, gs, tl, rfl, _⟩ := h
    rfl
  · obtain ⟨p, g, t, o, gs, tl, rfl, R, k⟩ := h
    refine ⟨_, (pss_one (ps_ret (pe_callTy call_list_of (by rfl) T.list (by decide +kernel) (pa_cons (pe_fld (pv 0) rfl) pa_nil)))), ?_⟩
    exact rdG T R rfl ⟨g, _, rfl, .inl (SqL.of R.hg), k⟩
def spTail (C : Addr) : Sp := fun vs H Q _ => ∃ (p g t o : Addr) (gs : List Int) (tl : Tl), vs = [.ref p] ∧ RuleAt C H p g t o gs tl ∧ Q (.ref t) H
theorem scTail : FnScope ["self"] ["self"] (defScope s_Rule_tail) := ⟨rfl, rfl, rfl, by decide +kernel, rfl, by decide +kernel, by decide +kernel⟩
theorem ok_tail {f C : Addr} {fd : FuncData} (F : Fun K "tail" "Rule.tail" s_Rule_tail f fd) (T : Txt K mg C) : FnOk P w K mg base CX0 1 f fd ["self"] (spTail C) := by
  refine F.ok scTail (fun vs H Q E h => ?_) (fun cdv A outer s H vs Q E hr h => ?_)
  · obtain ⟨p, g, t, o, gs, tl, rfl, _⟩ := h
    rfl
  · obtain ⟨p, g, t, o, gs, tl, rfl, R, k⟩ := h
    refine ⟨_, (pss_one (ps_ret (pe_fld (pv 0) rfl))), ?_⟩
    exact rdT T R rfl k
end
end RS
namespace RS
open PySem L2
/-! ### the law's own source of numbers -/
/-- all but what stands at a is as it was -/
def Kx (a : Addr) (H H' : Hp) : Prop := ∀ c u, c ≠ a → H c = some u → H' c = some u
theorem Kx.refl (a : Addr) (H : Hp) : Kx a H H := fun _ _ _ h => h
theorem Kx.trans {a : Addr} {H H1 H2 : Hp} (x : Kx a H H1) (y : Kx a H1 H2) : Kx a H H2 := fun c u n h => y c u n (x c u n h)
theorem Kx.of {a : Addr} {H H' : Hp} (x : Same H H') : Kx a H H' := fun c u _ h => x c u h
theorem Kx.upd {a : Addr} {H : Hp} {o : HO} : Kx a H (upd H a o) := fun c u n h => by
  rw [upd_ne n]
  exact h
theorem Kx.free {a : Addr} {H H' : Hp} (x : Kx a H H') {p : Addr} (n : p ≠ a) (h : H' p = none) : H p = none := by
  cases q : H p with
  | none => rfl
  | some o =>
    rw [x p o n q] at h
    cases h
structure Src (H : Hp) (a : Addr) (b : Nat) : Prop where
  ex : ∃ s0 s1 s2 : Int, H a = some (.lst [.int s0, .int s1, .int s2]) ∧ 0 ≤ s0 ∧ 0 ≤ s1 ∧ s1 < 2147483647 ∧ 0 ≤ s2 ∧ s2 ≤ b
theorem Src.mono {H H' : Hp} {a : Addr} {b : Nat} (h : Src H a b) (e : Same H H') : Src H' a b := by
  obtain ⟨s0, s1, s2, h1, h2⟩ := h.ex
  exact ⟨s0, s1, s2, e _ _ h1, h2⟩
theorem Src.le {H : Hp} {a : Addr} {b c : Nat} (h : Src H a b) (e : b ≤ c) : Src H a c := by
  obtain ⟨s0, s1, s2, h1, h2, h3, h4, h5, h6⟩ := h.ex
  exact ⟨s0, s1, s2, h1, h2, h3, h4, h5, by omega⟩
theorem Src.new {H : Hp} {a : Addr} {b : Nat} (h : Src H a b) {p : Addr} (hp : H p = none) : a ≠ p := by
  obtain ⟨s0, s1, s2, h1, _⟩ := h.ex
  exact ne_of_none h1 hp
section
variable {P : Program} {w : World} {K : PySem.W.Frag} {mg : Str → Option Value} {base : Heap}
def spSrcOf : Sp := fun vs H Q _ => ∃ c : Int, vs = [.int c] ∧ ∀ a H', H a = none → Same H H' → Src H' a 0 → Q (.ref a) H'
theorem scSrcOf : FnScope ["_law_cell"] ["_law_cell"] (defScope s_law_source_of) := ⟨rfl, rfl, rfl, by decide +kernel, rfl, by decide +kernel, by decide +kernel⟩
theorem ok_srcOf {f C : Addr} {fd : FuncData} (F : Fun K "_law_source_of" "_law_source_of" s_law_source_of f fd) (T : Txt K mg C) : FnOk P w K mg base CX0 1 f fd ["_law_cell"] spSrcOf := by
  refine F.ok scSrcOf (fun vs H Q E h => ?_) (fun cdv A outer s H vs Q E hr h => ?_)
  · obtain ⟨c, rfl, _⟩ := h
    rfl
  · obtain ⟨c, rfl, k⟩ := h
    refine ⟨_, (pss_one (ps_ret (pe_lst (pa_cons (pe_op op_mul (pv 0) (pe_callTy call_int1 (by rfl) T.int (by decide +kernel) (pa_cons (pe_cmpR op_ge (pv 0) (pe_op op_pow pe_int pe_int) (nomark _)) pa_nil))) (pa_cons (pe_op op_mod (pe_callTy call_int1 (by rfl) T.int (by decide +kernel) (pa_cons (pv 0) pa_nil)) pe_int) (pa_cons pe_int pa_nil)))))), ?_⟩
    refine ⟨_, rfl, _, rfl, _, _, rfl, rfl, ⟨by decide, by decide, by decide⟩, _, _, rfl, rfl, .inr ⟨_, rfl, ?_⟩⟩
    refine ⟨_, _, rfl, rfl, .inr ?_, _, rfl, .inl ⟨_, rfl, _, _, rfl, rfl, (by show (0 : Int) < 2147483647; decide), (by show 3 ≤ sizeLine; decide), fun a ha => ?_⟩⟩
    · by_cases hc : (10 : Int) ^ (18 : Int).toNat ≤ c
      · rw [decide_eq_true hc]; decide
      · rw [decide_eq_false hc]; decide
    · refine k a _ ha (same_new ha) ⟨_, _, _, upd_same, ?_, Int.emod_nonneg _ (by decide), Int.emod_lt_of_pos _ (by decide), by decide, by decide⟩
      by_cases hc : (10 : Int) ^ (18 : Int).toNat ≤ c
      · have e : (10 : Int) ^ (18 : Int).toNat = 1000000000000000000 := by decide
        rw [decide_eq_true hc]
        show 0 ≤ c * 1
        omega
      · rw [decide_eq_false hc]
        show 0 ≤ c * 0
        omega
def spNext : Sp := fun vs H Q _ => ∃ (a : Addr) (m : Int) (b : Nat), vs = [.ref a, .int m] ∧ Src H a b ∧ b ≤ 100000 ∧ 1 ≤ m ∧ m < 2 ^ 200 ∧ ∀ r H', 0 ≤ r → r < m → Kx a H H' → Src H' a (b + 1) → Q (.int r) H'
theorem scNext : FnScope ["_law_source", "_law_bound", "_law_result", "_law_prime", "_law_mixed"] ["_law_source", "_law_bound"] (defScope s_law_draw) := ⟨rfl, rfl, rfl, by decide +kernel, rfl, by decide +kernel, by decide +kernel⟩
theorem prime_at {s : Int} (h : 0 ≤ s) : ∃ pr : Int, atI [V.int 2147483647, V.int 2147483629, V.int 2147483587, V.int 2147483579, V.int 2147483563, V.int 2147483549, V.int 2147483543] (s % 7) = some (.int pr) ∧ 1 ≤ pr ∧ pr ≤ 2147483647 := by
  have h1 : s % 7 = 0 ∨ s % 7 = 1 ∨ s % 7 = 2 ∨ s % 7 = 3 ∨ s % 7 = 4 ∨ s % 7 = 5 ∨ s % 7 = 6 := by omega
  rcases h1 with h1 | h1 | h1 | h1 | h1 | h1 | h1 <;> rw [h1] <;> exact ⟨_, rfl, by decide, by decide⟩
theorem ok_next {f C : Addr} {fd : FuncData} (F : Fun K "_law_draw" "_law_draw" s_law_draw f fd) (T : Txt K mg C) : FnOk P w K mg base CX0 1 f fd ["_law_source", "_law_bound"] spNext := by
  refine F.ok scNext (fun vs H Q E h => ?_) (fun cdv A outer s H vs Q E hr h => ?_)
  · obtain ⟨a, m, b, rfl, _⟩ := h
    rfl
  · obtain ⟨a, m, b, rfl, S, hb, hm1, hm2, k⟩ := h
    obtain ⟨s0, s1, s2, ha, h0, h1, h1', h2, h2'⟩ := S.ex
    refine ⟨_, (pss_cons (ps_if (pt_cmpR op_gt (pe_ix ix_list (pv 0) pe_int (fun _ _ => rfl)) pe_int (nomark _)) (pss_cons (ps_set (i := 2) scNext.nd rfl (Or.inl rfl) (pe_op op_mod (pe_callTy call_int1 (by rfl) T.int (by decide +kernel) (pa_cons (pe_ix ix_list (pv 0) pe_int (fun _ _ => rfl)) pa_nil)) (pv 1))) (pss_cons (ps_asg (pe_op op_fdivW (pe_ix ix_list (pv 0) pe_int (fun _ _ => rfl)) (pv 1)) (pg_sub (pv 0) pe_int set_list)) (pss_one (ps_ret (pv 2))))) pss_nil) (pss_cons (ps_asg (pe_op op_add (pe_ix ix_list (pv 0) pe_int (fun _ _ => rfl)) pe_int) (pg_sub (pv 0) pe_int set_list)) (pss_cons (ps_set (i := 3) scNext.nd rfl (Or.inl rfl) (pe_ix ix_list (pe_lst (pa_cons pe_int (pa_cons pe_int (pa_cons pe_int (pa_cons pe_int (pa_cons pe_int (pa_cons pe_int (pa_cons pe_int pa_nil)))))))) (pe_op op_mod (pe_callTy call_int1 (by rfl) T.int (by decide +kernel) (pa_cons (pe_ix ix_list (pv 0) pe_int (fun _ _ => rfl)) pa_nil)) pe_int) (fun _ _ => rfl))) (pss_cons (ps_set (i := 4) scNext.nd rfl (Or.inl rfl) (pe_op op_mod (pe_callTy call_int1 (by rfl) T.int (by decide +kernel) (pa_cons (pe_op op_pow (pe_op op_add (pe_op op_add (pe_ix ix_list (pv 0) pe_int (fun _ _ => rfl)) (pe_op op_mul pe_int (pe_ix ix_list (pv 0) pe_int (fun _ _ => rfl)))) pe_int) pe_int) pa_nil)) (pv 3))) (pss_cons (ps_set (i := 4) scNext.nd rfl (Or.inl rfl) (pe_op op_mod (pe_callTy call_int1 (by rfl) T.int (by decide +kernel) (pa_cons (pe_op op_mul (pe_op op_add (pv 4) (pe_ix ix_list (pv 0) pe_int (fun _ _ => rfl))) (pe_op op_add (pe_op op_fdiv (pv 4) pe_int) pe_int)) pa_nil)) (pv 3))) (pss_one (ps_ret (pe_op op_mod (pe_callTy call_int1 (by rfl) T.int (by decide +kernel) (pa_cons (pe_op op_fdiv (pv 4) pe_int) pa_nil)) (pv 1))))))))), ?_⟩
    refine ⟨_, rfl, a, _, _, _, rfl, rfl, SqL.of ha, atI_nat (j := 0) rfl, _, _, rfl, rfl, _, rfl, ?_⟩
    by_cases hz : 0 < s0
    · refine iteTb (decide_eq_true hz) ?_
      refine ⟨_, rfl, a, _, _, _, rfl, rfl, SqL.of ha, atI_nat (j := 0) rfl, .inl ⟨_, rfl, _, rfl, _, _, rfl, rfl, by omega, ?_⟩⟩
      refine ⟨_, rfl, a, _, _, _, rfl, rfl, SqL.of ha, atI_nat (j := 0) rfl, _, rfl, _, _, rfl, rfl, wide_div (by omega) (b := 200) (by omega) (by decide) (by decide), _, rfl, a, _, _, 0, rfl, rfl, ha, rfl, ?_⟩
      refine ⟨_, rfl, k _ _ (Int.emod_nonneg _ (by omega)) (Int.emod_lt_of_pos _ (by omega)) Kx.upd ⟨s0 / m, s1, s2, upd_same, Int.ediv_nonneg h0 (by omega), h1, h1', h2, by omega⟩⟩
    · refine iteFb (decide_eq_false hz) ?_
      refine ⟨_, rfl, a, _, _, _, rfl, rfl, SqL.of ha, atI_nat (j := 2) rfl, _, _, rfl, rfl, _, rfl, a, _, _, 2, rfl, rfl, ha, rfl, ?_⟩
      refine ⟨by show 7 ≤ sizeLine; decide, fun l hl => ?_⟩
      have hal : (upd (upd H a (.lst [.int s0, .int s1, .int (s2 + 1)])) l (.lst [.int 2147483647, .int 2147483629, .int 2147483587, .int 2147483579, .int 2147483563, .int 2147483549, .int 2147483543])) a = some (.lst [.int s0, .int s1, .int (s2 + 1)]) := by
        rw [upd_ne (ne_of_none upd_same hl)]
        exact upd_same
      obtain ⟨pr, hpr, hp1, hp2⟩ := prime_at (s := s2 + 1) (by omega)
      refine ⟨_, rfl, a, _, _, _, rfl, rfl, SqL.of hal, atI_nat (j := 2) rfl, .inl ⟨_, rfl, _, _, rfl, rfl, (by show (0 : Int) < 7; decide), l, _, _, _, rfl, rfl, SqL.of upd_same, hpr, ?_⟩⟩
      refine ⟨_, rfl, a, _, _, _, rfl, rfl, SqL.of hal, atI_nat (j := 1) rfl, _, rfl, a, _, _, _, rfl, rfl, SqL.of hal, atI_nat (j := 2) rfl, _, _, rfl, rfl, .inl ⟨by decide, by decide⟩, _, _, rfl, rfl, _, _, rfl, rfl, _, _, rfl, rfl, ⟨by decide, by decide, by omega⟩, .inl ⟨_, rfl, _, rfl, _, _, rfl, rfl, by omega, ?_⟩⟩
      generalize hf : (s1 + 7919 * (s2 + 1) + 1) ^ (5 : Int).toNat % pr = fg
      have f0 : 0 ≤ fg := by rw [← hf]; exact Int.emod_nonneg _ (by omega)
      have f1 : fg < pr := by rw [← hf]; exact Int.emod_lt_of_pos _ (by omega)
      refine ⟨_, rfl, _, rfl, a, _, _, _, rfl, rfl, SqL.of hal, atI_nat (j := 2) rfl, _, _, rfl, rfl, _, rfl, _, _, rfl, rfl, ⟨by decide, by decide⟩, _, _, rfl, rfl, _, _, rfl, rfl, .inl ⟨by omega, by omega⟩, .inl ⟨_, rfl, _, rfl, _, _, rfl, rfl, by omega, ?_⟩⟩
      refine ⟨_, rfl, _, _, rfl, rfl, ⟨by decide, by decide⟩, .inl ⟨_, rfl, _, rfl, _, _, rfl, rfl, by omega, ?_⟩⟩
      refine k _ _ (Int.emod_nonneg _ (by omega)) (Int.emod_lt_of_pos _ (by omega)) (fun c u n e => ?_) ⟨s0, s1, s2 + 1, hal, h0, h1, h1', by omega, by omega⟩
      have e2 : (upd H a (.lst [.int s0, .int s1, .int (s2 + 1)])) c = some u := by
        rw [upd_ne n]
        exact e
      rw [upd_ne (ne_of_none e2 hl)]
      exact e2
def spOne : Sp := fun vs H Q _ => ∃ (a q : Addr) (xs : List V) (b : Nat), vs = [.ref a, .ref q] ∧ Src H a b ∧ b ≤ 100000 ∧ q ≠ a ∧ H q = some (.lst xs) ∧ 0 < xs.length ∧ xs.length < 1000 ∧ ∀ x H', x ∈ xs → Kx a H H' → Src H' a (b + 1) → Q x H'
theorem scOne : FnScope ["_law_source", "_law_options"] ["_law_source", "_law_options"] (defScope s_law_choice) := ⟨rfl, rfl, rfl, by decide +kernel, rfl, by decide +kernel, by decide +kernel⟩
theorem ok_one {f C fN : Addr} {fd fdN : FuncData} (F : Fun K "_law_choice" "_law_choice" s_law_choice f fd) (T : Txt K mg C) (FN : Fun K "_law_draw" "_law_draw" s_law_draw fN fdN) (bN : Binds K fdN ["_law_source", "_law_bound"] []) (mN : mg "_law_draw" = some (.ref fN)) :
    FnOk P w K mg base CX0 2 f fd ["_law_source", "_law_options"] spOne := by
  have GN : FnOk P w K mg base CX0 1 fN fdN ["_law_source", "_law_bound"] spNext := ok_next FN T
  refine F.ok scOne (fun vs H Q E h => ?_) (fun cdv A outer s H vs Q E hr h => ?_)
  · obtain ⟨a, q, xs, b, rfl, _⟩ := h
    rfl
  · obtain ⟨a, q, xs, b, rfl, S, hb, hne, hq, hx0, hx1, k⟩ := h
    refine ⟨_, (pss_one (ps_ret (pe_ix ix_list (pv 1) (pe_call GN hr rfl mN FN.kp bN .nil pass0 (pa_cons (pv 0) (pa_cons (pe_callB call_len_seq (by rfl) T.len (by decide +kernel) (pa_cons (pv 1) pa_nil)) pa_nil))) (fun _ _ => rfl)))), ?_⟩
    refine ⟨_, rfl, _, rfl, _, rfl, q, _, rfl, .inl (SqL.of hq), a, (xs.length : Int), b, rfl, S, hb, by omega, by omega, fun r H' r0 r1 kx S' => ?_⟩
    obtain ⟨j, rfl⟩ : ∃ j : Nat, r = (j : Int) := ⟨r.toNat, by omega⟩
    have hj : j < xs.length := by omega
    exact ⟨q, _, _, _, rfl, rfl, SqL.of (kx _ _ hne hq), atI_nat (List.getElem?_eq_getElem hj), k _ _ (List.getElem_mem hj) kx S'⟩
def spCell (K : PySem.W.Frag) : Sp := fun vs H Q _ => ∃ (a : Addr) (ns : List Int), vs = [.ref a, .int 0] ∧ SqL K H a (ns.map V.int) ∧ Q (.int (ns.getD 0 0)) H
theorem scCell : FnScope ["_law_script", "_law_index"] ["_law_script", "_law_index"] (defScope s_law_cell_at) := ⟨rfl, rfl, rfl, by decide +kernel, rfl, by decide +kernel, by decide +kernel⟩
theorem ok_cell {f C : Addr} {fd : FuncData} (F : Fun K "_law_cell_at" "_law_cell_at" s_law_cell_at f fd) (T : Txt K mg C) : FnOk P w K mg base CX0 1 f fd ["_law_script", "_law_index"] (spCell K) := by
  refine F.ok scCell (fun vs H Q E h => ?_) (fun cdv A outer s H vs Q E hr h => ?_)
  · obtain ⟨a, ns, rfl, _⟩ := h
    rfl
  · obtain ⟨a, ns, rfl, hs, k⟩ := h
    refine ⟨_, (pss_cons (ps_if (pt_cmpR op_lt (pv 1) (pe_callB call_len_seq (by rfl) T.len (by decide +kernel) (pa_cons (pv 0) pa_nil)) (nomark _)) (pss_one (ps_ret (pe_ix ix_list (pv 0) (pv 1) (fun _ _ => rfl)))) pss_nil) (pss_one (ps_ret pe_int))), ?_⟩
    refine ⟨_, rfl, _, rfl, a, _, rfl, .inl hs, _, _, rfl, rfl, _, rfl, ?_⟩
    rw [List.length_map]
    cases ns with
    | nil => exact iteFb (by decide) k
    | cons n r =>
      refine iteTb (decide_eq_true (by rw [List.length_cons]; omega)) ?_
      exact ⟨_, rfl, _, rfl, a, _, _, _, rfl, rfl, hs, atI_nat (j := 0) rfl, k⟩
end
end RS
/-! ### two fors in one comprehension, over lists -/
namespace L2
open PySem PySem.Spec PyProof.Rows
/-- over a list, whatever a turn does -/
theorem it_list {K : PySem.W.Frag} {a : Addr} {xs : List V} {Qd : Hp → Prop} {H0 : Hp} (B : V → Hp → (Hp → Prop) → Prop) (Pv : Nat → Hp → Prop) (h0 : Pv 0 H0) (hl : ∀ i H, i ≤ xs.length → Pv i H → SqL K H a xs)
    (hs : ∀ i x H, xs[i]? = some x → Pv i H → B x H (Pv (i + 1))) (hd : ∀ H, Pv xs.length H → Qd H) :
    ∃ W : Nat → Nat → Hp → Prop, (∃ m, W 0 m H0) ∧ ∀ i m H, W i m H → ((Itl K a).stop i H ∧ Qd H) ∨ ((Itl K a).go i H ∧ ∃ Nx : Hp → Prop, (∀ H', Nx H' → ∃ m', m' < m ∧ W (i + 1) m' H') ∧ ∀ x H', (Itl K a).yld i H x H' → B x H' Nx) := by
  refine ⟨fun i m H => m + i = xs.length ∧ Pv i H, ⟨xs.length, by simp, h0⟩, ?_⟩
  rintro i m H ⟨e, pv⟩
  have sq := hl i H (by omega) pv
  by_cases lt : i < xs.length
  · refine .inr ⟨⟨xs, xs[i], sq, by simp [lt]⟩, Pv (i + 1), fun H' pv' => ⟨m - 1, by omega, by omega, pv'⟩, fun x H' y => ?_⟩
    obtain ⟨eh, gx⟩ := y
    subst eh
    exact hs i x _ (gx xs sq) pv
  · have ei : i = xs.length := by omega
    subst ei
    exact .inl ⟨⟨xs, sq, Nat.le_refl _⟩, hd H pv⟩
end L2
namespace RS
open PySem L2
/-! ### offsets that repeat, residues -/
def repOffs (gs : List Int) (m : Nat) : List Int := (List.range m).map fun k => pre gs (gs.length - m + k)
def resid (gs : List Int) (m : Nat) (s : Int) : List Int := (repOffs gs m).map fun x => (s + x) % per gs m
theorem resid_len (gs : List Int) (m : Nat) (s : Int) : (resid gs m s).length = m := by simp [resid, repOffs]
theorem cut_last (xs : List V) (i : Nat) (h : i < xs.length) : cutV xs (some (i : Int)) (some (-1)) = (xs.drop i).take (xs.length - 1 - i) := by
  have e : HT.sIx xs.length xs.length (some (-1 : Int)) = xs.length - 1 := by
    show (if (-1 : Int) < 0 then (-1 + (xs.length : Int)).toNat else min (-1 : Int).toNat xs.length) = _
    rw [if_pos (by omega)]
    omega
  unfold cutV
  rw [HT.sIx_nat, e, Nat.min_eq_left (by omega)]
theorem cut_offs {gs : List Int} {m : Nat} (h1 : 1 ≤ m) (h2 : m ≤ gs.length) : cutV ((offs gs).map V.int) (some ((gs.length - m : Nat) : Int)) (some (-1)) = (repOffs gs m).map V.int := by
  have hl : ((offs gs).map V.int).length = gs.length + 1 := by rw [List.length_map, offs_len]
  rw [cut_last _ _ (by rw [hl]; omega), hl]
  refine List.ext_getElem? fun k => ?_
  unfold repOffs
  by_cases hk : k < m
  · rw [List.getElem?_take_of_lt (by omega), List.getElem?_drop, List.getElem?_map, offs_get gs (by omega), List.getElem?_map, List.getElem?_map, List.getElem?_range hk]
    rfl
  · rw [List.getElem?_eq_none (by rw [List.length_take, List.length_drop, hl]; omega), List.getElem?_eq_none (by simp; omega)]
section
variable {P : Program} {w : World} {K : PySem.W.Frag} {mg : Str → Option Value} {base : Heap}
def spLO (C : Addr) : Sp := fun vs H Q _ => ∃ (p g t o : Addr) (gs : List Int) (tl : Tl), vs = [.ref p] ∧ RuleAt C H p g t o gs tl ∧ ∀ q H', H q = none → Same H H' → H' q = some (.lst ((offs gs).map V.int)) → Q (.ref q) H'
theorem scLO : FnScope ["rule"] ["rule"] (defScope s_listed_offsets) := ⟨rfl, rfl, rfl, by decide +kernel, rfl, by decide +kernel, by decide +kernel⟩
theorem ok_lo {f C fS fG : Addr} {fd fdS fdG : FuncData} (F : Fun K "listed_offsets" "listed_offsets" s_listed_offsets f fd) (T : Txt K mg C) (GS : FnOk P w K mg base CX0 1 fS fdS ["gaps"] spSums) (bS : Binds K fdS ["gaps"] []) (mS : mg "sums" = some (.ref fS)) (kS : PySem.W.keepIn K (.ref fS) = true)
    (GG : FnOk P w K mg base CX0 1 fG fdG ["self"] (spGaps C)) (bG : Binds K fdG ["self"] []) (mG : Meth K C "gaps" fG) : FnOk P w K mg base CX0 2 f fd ["rule"] (spLO C) := by
  refine F.ok scLO (fun vs H Q E h => ?_) (fun cdv A outer s H vs Q E hr h => ?_)
  · obtain ⟨p, g, t, o, gs, tl, rfl, _⟩ := h
    rfl
  · obtain ⟨p, g, t, o, gs, tl, rfl, R, k⟩ := h
    refine ⟨_, (pss_one (ps_ret (pe_call GS hr rfl mS kS bS .nil pass0 (pa_cons (pe_meth0 (pv 0) T.cl mG GG hr bG .nil pass0) pa_nil)))), ?_⟩
    obtain ⟨dx, hob⟩ := R.ob
    have hl := R.okG.1
    refine ⟨_, rfl, p, dx, _, rfl, hob, flds_no _ _ _ (by decide +kernel) (by decide +kernel) (by decide +kernel), p, g, t, o, gs, tl, rfl, R, fun l hl0 => ?_⟩
    have S := same_new (o := .lst (gs.map V.int)) hl0
    refine ⟨l, gs, rfl, upd_same, by omega, fun q H' hq S' hq' => k q H' (S.free hq) (S.trans S') hq'⟩
def spRO (C : Addr) : Sp := fun vs H Q _ => ∃ (p g t o : Addr) (gs : List Int) (m : Nat), vs = [.ref p] ∧ RuleAt C H p g t o gs (.rep m) ∧ ∀ q H', H q = none → Same H H' → H' q = some (.lst ((repOffs gs m).map V.int)) → Q (.ref q) H'
theorem scRO : FnScope ["rule"] ["rule"] (defScope s_repeating_offsets) := ⟨rfl, rfl, rfl, by decide +kernel, rfl, by decide +kernel, by decide +kernel⟩
theorem ok_ro {f C fL fR : Addr} {fd fdL fdR : FuncData} (F : Fun K "repeating_offsets" "repeating_offsets" s_repeating_offsets f fd) (T : Txt K mg C) (GL : FnOk P w K mg base CX0 2 fL fdL ["rule"] (spLO C)) (bL : Binds K fdL ["rule"] []) (mL : mg "listed_offsets" = some (.ref fL)) (kL : PySem.W.keepIn K (.ref fL) = true)
    (GR : FnOk P w K mg base CX0 1 fR fdR ["self"] (spFR C)) (bR : Binds K fdR ["self"] []) (mR : Meth K C "first_repeating" fR) : FnOk P w K mg base CX0 3 f fd ["rule"] (spRO C) := by
  refine F.ok scRO (fun vs H Q E h => ?_) (fun cdv A outer s H vs Q E hr h => ?_)
  · obtain ⟨p, g, t, o, gs, m, rfl, _⟩ := h
    rfl
  · obtain ⟨p, g, t, o, gs, m, rfl, R, k⟩ := h
    have hr1 := hr.mono (show 1 ≤ 2 by decide)
    refine ⟨_, (pss_cons (ps_if (pt_cmpR op_isN (pe_meth0 (pv 0) T.cl mR GR hr1 bR .nil pass0) pe_non (nomark _)) (pss_one (ps_ret (pe_lst pa_nil))) pss_nil) (pss_one (ps_ret (pe_slice sl_list (pe_call GL hr rfl mL kL bL .nil pass0 (pa_cons (pv 0) pa_nil)) (po_some (pe_meth0 (pv 0) T.cl mR GR hr1 bR .nil pass0)) (po_some (pe_un un_neg pe_int)))))), ?_⟩
    obtain ⟨dx, hob⟩ := R.ob
    have hm0 : 1 ≤ m := R.okT.1
    have hm1 : m ≤ gs.length := R.okT.2
    have nF : (flds g t o).lookup ("first_repeating" : Str) = none := flds_no _ _ _ (by decide +kernel) (by decide +kernel) (by decide +kernel)
    refine ⟨_, rfl, p, dx, _, rfl, hob, nF, p, g, t, o, gs, m, rfl, R, rfl, _, rfl, iteFb (decide_eq_false fun e => nomatch e) ?_⟩
    refine ⟨_, rfl, p, g, t, o, gs, .rep m, rfl, R, fun q H1 hq S1 hq1 => ?_⟩
    have R1 := R.mono S1
    obtain ⟨dx1, hob1⟩ := R1.ob
    refine ⟨_, rfl, p, dx1, _, rfl, hob1, nF, p, g, t, o, gs, m, rfl, R1, _, rfl, _, rfl, _, rfl, q, _, rfl, SqL.of hq1, fun l hl => ?_⟩
    rw [cut_offs hm0 hm1]
    exact k l _ (S1.free hl) (S1.trans (same_new hl)) upd_same
def spRes (C : Addr) : Sp := fun vs H Q _ => ∃ (p g t o : Addr) (gs : List Int) (m : Nat) (s : Int), vs = [.ref p, .int s] ∧ RuleAt C H p g t o gs (.rep m) ∧ ∀ q H', H q = none → Same H H' → H' q = some (.lst ((resid gs m s).map V.int)) → Q (.ref q) H'
theorem scRes : FnScope ["rule", "start", "offset"] ["rule", "start"] (defScope s_residues) := ⟨rfl, rfl, rfl, by decide +kernel, rfl, by decide +kernel, by decide +kernel⟩
theorem ok_res {f C fO fP : Addr} {fd fdO fdP : FuncData} (F : Fun K "_residues" "_residues" s_residues f fd) (T : Txt K mg C) (GO : FnOk P w K mg base CX0 3 fO fdO ["rule"] (spRO C)) (bO : Binds K fdO ["rule"] []) (mO : mg "repeating_offsets" = some (.ref fO)) (kO : PySem.W.keepIn K (.ref fO) = true)
    (GP : FnOk P w K mg base CX0 2 fP fdP ["self"] (spPer C)) (bP : Binds K fdP ["self"] []) (mP : Meth K C "period" fP) : FnOk P w K mg base CX0 4 f fd ["rule", "start"] (spRes C) := by
  refine F.ok scRes (fun vs H Q E h => ?_) (fun cdv A outer s H vs Q E hr h => ?_)
  · obtain ⟨p, g, t, o, gs, m, s, rfl, _⟩ := h
    rfl
  · obtain ⟨p, g, t, o, gs, m, st, rfl, R, k⟩ := h
    have hr2 := hr.mono (show 2 ≤ 3 by decide)
    have hm0 : 1 ≤ m := R.okT.1
    have hm1 : m ≤ gs.length := R.okT.2
    have hp := per_bd R.okG hm0 hm1
    have hg := R.okG.1
    refine ⟨_, (pss_one (ps_ret (pe_lc (own := [("offset", 2)]) (g := gName 2) (tt := tYes) rfl scRes.nd (pi_list (pe_call GO hr rfl mO kO bO .nil pass0 (pa_cons (pv 0) pa_nil))) (blkOk_by (own := [("offset", 2)]) (N := ["rule", "start", "offset"]) (sc := defScope s_residues) (by decide +kernel))
        (fun _ _ _ _ _ => (pg_name (i := 2) scRes.nd rfl (Or.inl rfl))) (fun _ _ _ _ _ => pts_nil) (fun _ _ _ _ _ => (pe_op op_mod (pe_op op_add (pv 1) (pv 2)) (pe_meth0 (pv 0) T.cl mP GP hr2 bP .nil pass0)))))), ?_⟩
    refine ⟨_, rfl, p, g, t, o, gs, m, rfl, R, fun q H1 hq S1 hq1 => ?_⟩
    refine ⟨q, rfl, ⟨_, SqL.of hq1⟩, fun D hD => lc_map (a := q) (xs := (repOffs gs m).map V.int) ((resid gs m st).map V.int) (SqL.of hq1) hD (by simp [resid]) (by simp [repOffs]; omega) (fun i x y H2 Q2 hx hy S2 q2 => ?_) (fun H2 S2 h2 => k D H2 (S1.free hD) (S1.trans S2) h2)⟩
    obtain ⟨x, hx', rfl⟩ := map_of hx
    obtain ⟨y, hy', rfl⟩ := map_of hy
    have ey : y = (st + x) % per gs m := by
      unfold resid at hy'
      rw [List.getElem?_map, hx'] at hy'
      exact (Option.some.inj hy').symm
    have R2 := (R.mono S1).mono S2
    obtain ⟨dx, hob⟩ := R2.ob
    refine ⟨rfl, _, rfl, _, rfl, _, _, rfl, rfl, ?_⟩
    refine ⟨_, rfl, p, dx, _, rfl, hob, flds_no _ _ _ (by decide +kernel) (by decide +kernel) (by decide +kernel), p, g, t, o, gs, .rep m, rfl, R2, _, _, rfl, rfl, (by show (0 : Int) < per gs m; omega), ?_⟩
    have := q2 H2 (Same.refl H2)
    rw [ey] at this
    exact this
/-! ### tables: lists of lists -/
end
end RS
namespace RS
open PySem L2
section
variable {P : Program} {w : World} {K : PySem.W.Frag} {mg : Str → Option Value} {base : Heap}
/-! ### the checks -/
def spCkR (C : Addr) : Sp := fun vs H Q _ => ∃ (p g t o : Addr) (gs : List Int) (m : Nat), vs = [.ref p] ∧ RuleAt C H p g t o gs (.rep m) ∧ Q .non H
theorem scCkR : FnScope ["rule"] ["rule"] (defScope s_check_repeating) := ⟨rfl, rfl, rfl, by decide +kernel, rfl, by decide +kernel, by decide +kernel⟩
theorem ok_ckR {f C fR : Addr} {fd fdR : FuncData} (F : Fun K "_check_repeating" "_check_repeating" s_check_repeating f fd) (T : Txt K mg C) (GR : FnOk P w K mg base CX0 1 fR fdR ["self"] (spFR C)) (bR : Binds K fdR ["self"] []) (mR : Meth K C "first_repeating" fR) : FnOk P w K mg base CX0 2 f fd ["rule"] (spCkR C) := by
  refine F.ok scCkR (fun vs H Q E h => ?_) (fun cdv A outer s H vs Q E hr h => ?_)
  · obtain ⟨p, g, t, o, gs, m, rfl, _⟩ := h
    rfl
  · obtain ⟨p, g, t, o, gs, m, rfl, R, k⟩ := h
    refine ⟨_, (pss_one (ps_if (pt_cmpR op_isN (pe_meth0 (pv 0) T.cl mR GR hr bR .nil pass0) pe_non (nomark _)) (pss_one ps_never) pss_nil)), ?_⟩
    obtain ⟨dx, hob⟩ := R.ob
    exact ⟨_, rfl, p, dx, _, rfl, hob, flds_no _ _ _ (by decide +kernel) (by decide +kernel) (by decide +kernel), p, g, t, o, gs, m, rfl, R, rfl, _, rfl, iteFb (decide_eq_false fun e => nomatch e) k⟩
end
end RS
namespace RS
open PySem L2
/-! ### loop_distances -/
/-- the differences of the residues, as they are made -/
def difs (gs : List Int) (m : Nat) : List Int := (resid gs m 0).flatMap fun x => (resid gs m 0).map fun y => (x - y) % per gs m
section
variable {P : Program} {w : World} {K : PySem.W.Frag} {mg : Str → Option Value} {base : Heap}
/-- strictly ascending, with the same members -/
structure SetOf (ks ns : List Int) : Prop where
  pw : ks.Pairwise (· < ·)
  mem : ∀ k, k ∈ ks ↔ k ∈ ns
def spLD (C : Addr) : Sp := fun vs H Q _ => ∃ (p g t o : Addr) (gs : List Int) (m : Nat), vs = [.ref p] ∧ RuleAt C H p g t o gs (.rep m) ∧ ∀ q ks H', H q = none → Same H H' → SetOf ks (difs gs m) → ks.length ≤ 400 → H' q = some (.lst (ks.map V.int)) → Q (.ref q) H'
def ldN : List Str := ["rule", "residues", "one", "other"]
theorem scLD : FnScope ldN ["rule"] (defScope s_loop_distances) := ⟨rfl, rfl, rfl, by decide +kernel, rfl, by decide +kernel, by decide +kernel⟩
theorem ok_ld {f C fC fR fP : Addr} {fd fdC fdR fdP : FuncData} (F : Fun K "loop_distances" "loop_distances" s_loop_distances f fd) (T : Txt K mg C) (GC : FnOk P w K mg base CX0 2 fC fdC ["rule"] (spCkR C)) (bC : Binds K fdC ["rule"] []) (mC : mg "_check_repeating" = some (.ref fC)) (kC : PySem.W.keepIn K (.ref fC) = true)
    (GR : FnOk P w K mg base CX0 4 fR fdR ["rule", "start"] (spRes C)) (bR : Binds K fdR ["rule", "start"] []) (mR : mg "_residues" = some (.ref fR)) (kR : PySem.W.keepIn K (.ref fR) = true)
    (GP : FnOk P w K mg base CX0 2 fP fdP ["self"] (spPer C)) (bP : Binds K fdP ["self"] []) (mP : Meth K C "period" fP) : FnOk P w K mg base CX0 5 f fd ["rule"] (spLD C) := by
  refine F.ok scLD (fun vs H Q E h => ?_) (fun cdv A outer s H vs Q E hr h => ?_)
  · obtain ⟨p, g, t, o, gs, m, rfl, _⟩ := h
    rfl
  · obtain ⟨p, g, t, o, gs, m, rfl, R, k⟩ := h
    have hr2 := hr.mono (show 2 ≤ 4 by decide)
    refine ⟨_, (pss_cons (ps_expr (pe_call GC hr2 rfl mC kC bC .nil pass0 (pa_cons (pv 0) pa_nil))) (pss_cons (ps_set (i := 1) scLD.nd rfl (Or.inr rfl) (pe_call GR hr rfl mR kR bR .nil pass0 (pa_cons (pv 0) (pa_cons pe_int pa_nil)))) (pss_one (ps_ret (pe_callB (cr_sortedSetB rfl) (by rfl) T.sorted (by decide +kernel) (pa_cons (pe_callTy (cr_setL rfl) (by rfl) T.set (by decide +kernel) (pa_cons (pe_lc2 (own := [("one", 2), ("other", 3)]) (vs1 := [3]) (g := gName 2) (g1 := gName 3) (tt := tYes) (tt1 := tYes) rfl scLD.nd (pi_list (pv 1)) (blkOk_by (own := [("one", 2), ("other", 3)]) (N := ldN) (sc := defScope s_loop_distances) (by decide +kernel)) (by decide +kernel)
        (fun _ _ _ _ _ => (pg_name (i := 2) scLD.nd rfl (Or.inl rfl))) (fun _ _ _ _ _ => pts_nil) (fun _ _ _ _ _ => pi_listK K (by rfl) (pv 1)) (fun _ _ _ _ _ => (pg_name (i := 3) scLD.nd rfl (Or.inl rfl))) (fun _ _ _ _ _ => pts_nil) (fun _ _ _ _ _ => (pe_op op_mod (pe_op op_sub (pv 2) (pv 3)) (pe_meth0 (pv 0) T.cl mP GP hr2 bP .nil pass0)))) pa_nil)) pa_nil)))))), ?_⟩
    refine ⟨_, rfl, p, g, t, o, gs, m, rfl, R, ?_⟩
    refine ⟨_, rfl, p, g, t, o, gs, m, 0, rfl, R, fun q H1 hq S1 hq1 => ?_⟩
    have hm0 : 1 ≤ m := R.okT.1
    have hm1 : m ≤ gs.length := R.okT.2
    have hp := per_bd R.okG hm0 hm1
    have hg := R.okG.1
    have hrl : (resid gs m 0).length = m := resid_len _ _ _
    have row : ∀ x : Int, ((resid gs m 0).map fun y => (x - y) % per gs m).length = m := fun x => by rw [List.length_map, hrl]
    refine ⟨_, rfl, q, rfl, ⟨_, SqL.of hq1⟩, fun D hD => it_list (a := q) (xs := (resid gs m 0).map V.int) _ (fun i H' => Same H1 H' ∧ ∃ acc : List Int, acc = ((resid gs m 0).take i).flatMap (fun x => (resid gs m 0).map fun y => (x - y) % per gs m) ∧ acc.length = i * m ∧ H' D = some (.lst (acc.map V.int)))
      ⟨same_app hD (Same.refl _), [], by rw [List.take_zero]; rfl, by simp, upd_same⟩ (fun i H' _ z => SqL.of (z.1 _ _ hq1)) (fun i x H2 hx z => ?_) (fun H2 z => ?_)⟩
    · obtain ⟨S2, acc, eacc, hacc, hD2⟩ := z
      obtain ⟨x, hx', rfl⟩ := map_of hx
      have him : i < m := by
        have := (List.getElem?_eq_some_iff.mp hx').1
        omega
      refine ⟨rfl, yes_t (iteT ?_)⟩
      have hmm : i * m + m ≤ 400 := by
        have := Nat.mul_le_mul (show i + 1 ≤ 20 by omega) (show m ≤ 20 by omega)
        rw [Nat.add_mul, Nat.one_mul] at this
        exact this
      refine ⟨_, rfl, q, rfl, ⟨_, SqL.of (S2 _ _ hq1)⟩, it_list (a := q) (xs := (resid gs m 0).map V.int) _ (fun j H' => Same H1 H' ∧ ∃ a2 : List Int, a2 = acc ++ ((resid gs m 0).take j).map (fun y => (x - y) % per gs m) ∧ a2.length = i * m + j ∧ H' D = some (.lst (a2.map V.int)))
        ⟨S2, acc, by rw [List.take_zero]; simp, by omega, hD2⟩ (fun j H' _ z => SqL.of (z.1 _ _ hq1)) (fun j y H3 hy z => ?_) (fun H3 z => ?_)⟩
      · obtain ⟨S3, a2, ea2, ha2, hD3⟩ := z
        obtain ⟨y, hy', rfl⟩ := map_of hy
        have hjm : j < m := by
          have := (List.getElem?_eq_some_iff.mp hy').1
          omega
        refine ⟨rfl, yes_t (iteT ?_)⟩
        have R3 := R.mono (S1.trans S3)
        obtain ⟨dx, hob⟩ := R3.ob
        refine ⟨_, rfl, _, rfl, _, _, rfl, rfl, ?_⟩
        refine ⟨_, rfl, p, dx, _, rfl, hob, flds_no _ _ _ (by decide +kernel) (by decide +kernel) (by decide +kernel), p, g, t, o, gs, .rep m, rfl, R3, _, _, rfl, rfl, (by show (0 : Int) < per gs m; omega), ?_⟩
        refine ⟨a2.map V.int, hD3, by rw [List.length_map]; exact small1000 (by omega), same_app hD S3, a2 ++ [(x - y) % per gs m], ?_, ?_, ?_⟩
        · rw [List.take_add_one, hy', List.map_append, ea2, List.append_assoc]
          rfl
        · rw [List.length_append, ha2]
          show _ + 1 = _
          omega
        · rw [upd_same, List.map_append]
          rfl
      · obtain ⟨S3, a2, ea2, ha2, hD3⟩ := z
        rw [List.length_map, List.take_length] at ea2
        rw [List.length_map, hrl] at ha2
        refine ⟨S3, a2, ?_, ?_, hD3⟩
        · rw [List.take_add_one, hx', List.flatMap_append, ea2, eacc]
          simp
        · rw [ha2, Nat.add_mul, Nat.one_mul]
    obtain ⟨S2, acc, eacc, hacc, hD2⟩ := z
    rw [List.length_map, hrl] at hacc
    have hmm : m * m ≤ 400 := Nat.le_trans (Nat.mul_le_mul (by omega : m ≤ 20) (by omega : m ≤ 20)) (by decide)
    have ed : acc = difs gs m := by
      rw [eacc, List.length_map, List.take_length]
      rfl
    refine ⟨D, acc, rfl, SqL.of hD2, by omega, fun p2 c hp2 hc => ?_⟩
    refine ⟨p2, _, _, rfl, upd_same, by omega, fun ks q2 h2 h3 h4 hq2 => ?_⟩
    have S3 := (S1.trans S2).trans ((same_new hp2).trans (same_new (o := .lst (ks.map V.int)) hq2))
    refine k q2 ks _ ?_ S3 ⟨h2, fun j => by rw [h3 j, decide_eq_true_iff, ed]⟩ (by omega) upd_same
    exact (S1.trans S2).free ((same_new hp2).free hq2)
end
end RS
namespace RS
open PySem L2
theorem inV_int (v : Int) (os : List Int) : inV (.int v) (os.map V.int) = decide (v ∈ os) := by
  rw [Bool.eq_iff_iff, decide_eq_true_iff]
  unfold inV
  rw [List.any_eq_true]
  constructor
  · rintro ⟨y, hy, e⟩
    obtain ⟨z, hz, rfl⟩ := List.mem_map.mp hy
    have e : (z == v) = true := e
    rw [← eq_of_beq e]
    exact hz
  · intro h
    exact ⟨.int v, List.mem_map.mpr ⟨v, h, rfl⟩, (beq_self_eq_true v : (v == v) = true)⟩
theorem ints_flat (ns : List Int) : (ns.map V.int).all flatV = true := by
  rw [List.all_eq_true]
  intro x hx
  obtain ⟨n, _, rfl⟩ := List.mem_map.mp hx
  rfl
section
variable {P : Program} {w : World} {K : PySem.W.Frag} {mg : Str → Option Value} {base : Heap}
/-! ### check_slot, accepted; meets_forever -/
def spCkSA : Sp := fun vs H Q _ => ∃ i : Int, vs = [.int i] ∧ Q .non H
theorem scCkSA : FnScope ["slot"] ["slot"] (defScope s_check_slot) := ⟨rfl, rfl, rfl, by decide +kernel, rfl, by decide +kernel, by decide +kernel⟩
theorem ok_ckSA {f C fI : Addr} {fd fdI : FuncData} (F : Fun K "check_slot" "check_slot" s_check_slot f fd) (T : Txt K mg C) (GI : FnOk P w K mg base CX0 1 fI fdI ["value"] spIsInt) (bI : Binds K fdI ["value"] []) (mI : mg "is_integer" = some (.ref fI)) (kI : PySem.W.keepIn K (.ref fI) = true) : FnOk P w K mg base CX0 2 f fd ["slot"] spCkSA := by
  refine F.ok scCkSA (fun vs H Q E h => ?_) (fun cdv A outer s H vs Q E hr h => ?_)
  · obtain ⟨i, rfl, _⟩ := h
    rfl
  · obtain ⟨i, rfl, k⟩ := h
    refine ⟨_, (pss_one (ps_if (pt_not (pt_val (pe_call GI hr rfl mI kI bI .nil pass0 (pa_cons (pv 0) pa_nil)))) (pss_one ps_never) pss_nil)), ?_⟩
    exact ⟨_, rfl, i, rfl, true, rfl, iteF k⟩
def spMF (C : Addr) : Sp := fun vs H Q _ => ∃ (p g t o : Addr) (gs : List Int) (m : Nat) (d : Int), vs = [.ref p, .int d] ∧ RuleAt C H p g t o gs (.rep m) ∧ ∀ H', Same H H' → Q (.bl (decide (d % per gs m ∈ difs gs m))) H'
theorem scMF : FnScope ["rule", "distance"] ["rule", "distance"] (defScope s_meets_forever) := ⟨rfl, rfl, rfl, by decide +kernel, rfl, by decide +kernel, by decide +kernel⟩
theorem ok_mf {f C fC fS fL fP : Addr} {fd fdC fdS fdL fdP : FuncData} (F : Fun K "meets_forever" "meets_forever" s_meets_forever f fd) (T : Txt K mg C) (GC : FnOk P w K mg base CX0 2 fC fdC ["rule"] (spCkR C)) (bC : Binds K fdC ["rule"] []) (mC : mg "_check_repeating" = some (.ref fC)) (kC : PySem.W.keepIn K (.ref fC) = true)
    (GS : FnOk P w K mg base CX0 2 fS fdS ["slot"] spCkSA) (bS : Binds K fdS ["slot"] []) (mS : mg "check_slot" = some (.ref fS)) (kS : PySem.W.keepIn K (.ref fS) = true)
    (GL : FnOk P w K mg base CX0 5 fL fdL ["rule"] (spLD C)) (bL : Binds K fdL ["rule"] []) (mL : mg "loop_distances" = some (.ref fL)) (kL : PySem.W.keepIn K (.ref fL) = true)
    (GP : FnOk P w K mg base CX0 2 fP fdP ["self"] (spPer C)) (bP : Binds K fdP ["self"] []) (mP : Meth K C "period" fP) : FnOk P w K mg base CX0 6 f fd ["rule", "distance"] (spMF C) := by
  refine F.ok scMF (fun vs H Q E h => ?_) (fun cdv A outer s H vs Q E hr h => ?_)
  · obtain ⟨p, g, t, o, gs, m, d, rfl, _⟩ := h
    rfl
  · obtain ⟨p, g, t, o, gs, m, d, rfl, R, k⟩ := h
    have hr2 := hr.mono (show 2 ≤ 5 by decide)
    have hm0 : 1 ≤ m := R.okT.1
    have hm1 : m ≤ gs.length := R.okT.2
    have hp := per_bd R.okG hm0 hm1
    refine ⟨_, (pss_cons (ps_expr (pe_call GC hr2 rfl mC kC bC .nil pass0 (pa_cons (pv 0) pa_nil))) (pss_cons (ps_expr (pe_call GS hr2 rfl mS kS bS .nil pass0 (pa_cons (pv 1) pa_nil))) (pss_one (ps_ret (pe_cmpR (r := rIn K false) op_in_seq (pe_op op_mod (pv 1) (pe_meth0 (pv 0) T.cl mP GP hr2 bP .nil pass0)) (pe_call GL hr rfl mL kL bL .nil pass0 (pa_cons (pv 0) pa_nil)) (by rfl)))))), ?_⟩
    refine ⟨_, rfl, p, g, t, o, gs, m, rfl, R, ?_⟩
    refine ⟨_, rfl, d, rfl, ?_⟩
    obtain ⟨dx, hob⟩ := R.ob
    refine ⟨_, rfl, _, rfl, p, dx, _, rfl, hob, flds_no _ _ _ (by decide +kernel) (by decide +kernel) (by decide +kernel), p, g, t, o, gs, .rep m, rfl, R, _, _, rfl, rfl, (by show (0 : Int) < per gs m; omega), ?_⟩
    refine ⟨_, rfl, p, g, t, o, gs, m, rfl, R, fun q ks H1 hq S1 so hk hq1 => ?_⟩
    refine ⟨q, ks.map V.int, rfl, .inl (SqL.of hq1), rfl, ints_flat _, ?_⟩
    rw [if_neg (by decide), inV_int]
    have e : decide (d % per gs m ∈ ks) = decide (d % per gs m ∈ difs gs m) := by
      rw [decide_eq_decide]
      exact so.mem _
    show Q (.bl (decide (d % per gs m ∈ ks))) H1
    rw [e]
    exact k H1 S1
end
end RS
namespace RS
open PySem L2
/-! ### slices -/
theorem cut_to (xs : List V) (n : Nat) : cutV xs none (some (n : Int)) = xs.take n := by
  unfold cutV
  rw [HT.sIx_none, HT.sIx_nat, List.drop_zero, Nat.sub_zero]
  by_cases h : n ≤ xs.length
  · rw [Nat.min_eq_left h]
  · rw [Nat.min_eq_right (by omega), List.take_length, List.take_of_length_le (by omega)]
theorem cut_mid (xs : List V) (i n : Nat) : cutV xs (some (i : Int)) (some (n : Int)) = (xs.drop i).take (n - i) := by
  unfold cutV
  rw [HT.sIx_nat, HT.sIx_nat]
  by_cases h : i ≤ xs.length
  · rw [Nat.min_eq_left h]
    by_cases h2 : n ≤ xs.length
    · rw [Nat.min_eq_left h2]
    · rw [Nat.min_eq_right (by omega), List.take_of_length_le (by rw [List.length_drop]; exact Nat.le_refl _), List.take_of_length_le (by rw [List.length_drop]; omega)]
  · rw [show min i xs.length = xs.length by omega, List.drop_of_length_le (Nat.le_refl _), List.drop_of_length_le (show xs.length ≤ i by omega)]
    simp
theorem cut_back (xs : List V) {m : Nat} (h0 : 0 < m) (h : m ≤ xs.length) : cutV xs (some (-(m : Int))) none = xs.drop (xs.length - m) := by
  have e : HT.sIx xs.length 0 (some (-(m : Int))) = xs.length - m := by
    show (if -(m : Int) < 0 then (-(m : Int) + (xs.length : Int)).toNat else min (-(m : Int)).toNat xs.length) = _
    rw [if_pos (by omega)]
    omega
  unfold cutV
  rw [e, HT.sIx_none, List.take_of_length_le (by rw [List.length_drop]; exact Nat.le_refl _)]
theorem cut_from (xs : List V) {i : Nat} (h : i ≤ xs.length) : cutV xs (some (i : Int)) none = xs.drop i := by
  unfold cutV
  rw [HT.sIx_nat, HT.sIx_none, Nat.min_eq_left h, List.take_of_length_le (by rw [List.length_drop]; exact Nat.le_refl _)]
end RS
namespace RS
open PySem L2
section
variable {P : Program} {w : World} {K : PySem.W.Frag} {mg : Str → Option Value} {base : Heap}
/-! ### the law's rule that repeats -/
def spRep : Sp := fun vs H Q _ => ∃ (a : Addr) (b : Nat), vs = [.ref a] ∧ Src H a b ∧ b ≤ 50000 ∧
  ∀ (u g : Addr) (gs : List Int) (m : Nat) (H' : Hp), H g = none → H' u = some (.tup [.ref g, .int (m : Int)]) → H' g = some (.lst (gs.map V.int)) → GapsOk gs → 1 ≤ m → m ≤ gs.length → Kx a H H' → Src H' a (b + 30) → Q (.ref u) H'
def reN : List Str := ["_law_source", "_law_most", "_law_gaps", "_law_gap"]
theorem scRep : FnScope reN ["_law_source"] (defScope s_law_repeating) := ⟨rfl, rfl, rfl, by decide +kernel, rfl, by decide +kernel, by decide +kernel⟩
theorem ok_rep {f C fN fO : Addr} {fd fdN fdO : FuncData} (F : Fun K "_law_repeating" "_law_repeating" s_law_repeating f fd) (T : Txt K mg C) (GN : FnOk P w K mg base CX0 1 fN fdN ["_law_source", "_law_bound"] spNext) (bN : Binds K fdN ["_law_source", "_law_bound"] []) (mN : mg "_law_draw" = some (.ref fN)) (kN : PySem.W.keepIn K (.ref fN) = true)
    (GO : FnOk P w K mg base CX0 2 fO fdO ["_law_source", "_law_options"] spOne) (bO : Binds K fdO ["_law_source", "_law_options"] []) (mO : mg "_law_choice" = some (.ref fO)) (kO : PySem.W.keepIn K (.ref fO) = true) : FnOk P w K mg base CX0 3 f fd ["_law_source"] spRep := by
  refine F.ok scRep (fun vs H Q E h => ?_) (fun cdv A outer s H vs Q E hr h => ?_)
  · obtain ⟨a, b, rfl, _⟩ := h
    rfl
  · obtain ⟨a, b, rfl, S, hb, k⟩ := h
    have hr1 := hr.mono (show 1 ≤ 2 by decide)
    refine ⟨_, (pss_cons (ps_set (i := 1) scRep.nd rfl (Or.inr rfl) (pe_call GO hr rfl mO kO bO .nil pass0 (pa_cons (pv 0) (pa_cons (pe_lst (pa_cons pe_int (pa_cons pe_int (pa_cons pe_int (pa_cons pe_int (pa_cons (pe_op op_pow pe_int pe_int) pa_nil)))))) pa_nil)))) (pss_cons (ps_setLc (i := 2) (own := [("_law_gap", 3)]) (g := gName 3) (tt := tYes) (by rfl) scRep.nd rfl rfl (sw_true rfl rfl rfl (by decide +kernel)) (pi_range1 rfl T.range (pa_cons (pe_op op_add pe_int (pe_call GN hr1 rfl mN kN bN .nil pass0 (pa_cons (pv 0) (pa_cons (pe_call GO hr rfl mO kO bO .nil pass0 (pa_cons (pv 0) (pa_cons (pe_lst (pa_cons pe_int (pa_cons pe_int (pa_cons pe_int pa_nil)))) pa_nil))) pa_nil)))) pa_nil)) (blkOk_by (own := [("_law_gap", 3)]) (N := reN) (sc := (defScope s_law_repeating)) (by decide +kernel)) (fun _ _ _ _ _ => (pg_name (i := 3) scRep.nd rfl (Or.inl rfl))) (fun _ _ _ _ _ => pts_nil) (fun _ _ _ _ _ => (pe_op op_add pe_int (pe_call GN hr1 rfl mN kN bN .nil pass0 (pa_cons (pv 0) (pa_cons (pv 1) pa_nil)))))) (pss_one (ps_ret (pe_tup (pa_cons (pv 2) (pa_cons (pe_op op_add pe_int (pe_call GN hr1 rfl mN kN bN .nil pass0 (pa_cons (pv 0) (pa_cons (pe_callB call_len_seq (by rfl) T.len (by decide +kernel) (pa_cons (pv 2) pa_nil)) pa_nil)))) pa_nil))))))), ?_⟩
    -- most
    refine ⟨_, rfl, _, _, rfl, rfl, ⟨by decide, by decide, by decide⟩, (by show 5 ≤ sizeLine; decide), fun q1 hq1 => ?_⟩
    have S1 : Same H (upd H q1 (.lst [.int 2, .int 3, .int 6, .int 30, .int ((10 : Int) ^ (12 : Int).toNat)])) := same_new hq1
    refine ⟨a, q1, _, b, rfl, S.mono S1, by omega, (S.new hq1).symm, upd_same, by show 0 < 5; decide, by show 5 < 1000; decide, fun x H2 hx kx2 R2 => ?_⟩
    obtain ⟨wd, rfl, wd1, wd2⟩ : ∃ wd : Int, x = .int wd ∧ 1 ≤ wd ∧ wd ≤ 1000000000000 := by
      simp only [List.mem_cons, List.not_mem_nil, or_false] at hx
      rcases hx with rfl | rfl | rfl | rfl | rfl <;> exact ⟨_, rfl, by decide, by decide⟩
    have kx2 : Kx a H H2 := (Kx.of S1).trans kx2
    -- how many
    refine ⟨_, rfl, _, rfl, (by show 3 ≤ sizeLine; decide), fun q2 hq2 => ?_⟩
    refine ⟨a, q2, _, b + 1, rfl, R2.mono (same_new hq2), by omega, (R2.new hq2).symm, upd_same, by show 0 < 3; decide, by show 3 < 1000; decide, fun x H3 hx kx3 R3 => ?_⟩
    obtain ⟨ct, rfl, ct1, ct2⟩ : ∃ ct : Int, x = .int ct ∧ 1 ≤ ct ∧ ct ≤ 20 := by
      simp only [List.mem_cons, List.not_mem_nil, or_false] at hx
      rcases hx with rfl | rfl | rfl <;> exact ⟨_, rfl, by decide, by decide⟩
    have kx3 : Kx a H H3 := kx2.trans ((Kx.of (same_new hq2)).trans kx3)
    refine ⟨a, ct, b + 2, rfl, R3, by omega, ct1, by omega, fun cn H4 cn0 cn1 kx4 R4 => ?_⟩
    have kx4 : Kx a H H4 := kx3.trans kx4
    -- the gaps
    refine ⟨_, _, rfl, rfl, 1 + cn, rfl, by omega, by omega, fun D hD => ?_⟩
    have naD : a ≠ D := R4.new hD
    refine lc_range (lo := 0) (n := (1 + cn).toNat) (fun i H' => ∃ gs : List Int, gs.length = i ∧ (∀ g ∈ gs, 1 ≤ g ∧ g ≤ 1000000000000) ∧ H' D = some (.lst (gs.map V.int)) ∧ Kx a H4 H' ∧ Src H' a (b + 3 + i)) ⟨[], rfl, fun g hg => (nomatch hg), upd_same, Kx.of (same_new hD), R4.mono (same_new hD)⟩ (fun i H' hi p => ?_) (fun H' p => ?_)
    · obtain ⟨gs, hl, hg, hd, kx, R⟩ := p
      refine ⟨rfl, ?_⟩
      refine yes_t (iteT ?_)
      refine ⟨_, rfl, _, rfl, a, wd, b + 3 + i, rfl, R, by omega, wd1, by omega, fun r H5 r0 r1 kx5 R5 => ⟨_, _, rfl, rfl, gs.map V.int, kx5 D _ naD.symm hd, ?_, gs ++ [1 + r], ?_, ?_, ?_, ?_, ?_⟩⟩
      · rw [List.length_map]
        exact small1000 (by omega)
      · rw [List.length_append, hl]
        rfl
      · intro g hm
        rcases List.mem_append.mp hm with hm | hm
        · exact hg g hm
        · obtain rfl := List.mem_singleton.mp hm
          omega
      · rw [upd_same, List.map_append]
        rfl
      · intro c u n e
        rw [upd_ne (ne_of_none e hD)]
        exact kx5 c u n (kx c u n e)
      · obtain ⟨s0, s1, s2, h1, h2⟩ := R5.ex
        exact ⟨s0, s1, s2, by rw [upd_ne naD]; exact h1, h2⟩
    obtain ⟨gs, hl, hg, hd, kx, R⟩ := p
    have kx5 : Kx a H H' := kx4.trans kx
    have hDH : H D = none := kx4.free naD.symm hD
    have okG : GapsOk gs := ⟨by omega, hg⟩
    refine ⟨_, rfl, _, rfl, _, rfl, D, _, rfl, .inl (SqL.of hd), a, (gs.length : Int), b + 3 + (1 + cn).toNat, ?_, R, by omega, by omega, by omega, fun r H6 r0 r1 kx6 R6 => ?_⟩
    · rw [List.length_map]
      rfl
    refine ⟨_, _, rfl, rfl, (by show 2 ≤ sizeLine; decide), fun u hu => ?_⟩
    obtain ⟨n, rfl⟩ := Int.eq_ofNat_of_zero_le r0
    have hd6 := kx6 D _ naD.symm hd
    have Su := same_new (o := .tup [V.ref D, .int (1 + (n : Int))]) hu
    refine k u D gs (1 + n) _ hDH ?_ (Su _ _ hd6) okG (by omega) (by omega) ((kx5.trans kx6).trans (Kx.of Su)) ((R6.mono Su).le (by omega))
    rw [upd_same, Int.natCast_add]
    rfl
/-! ### the law's residues -/
theorem sum_take (gs : List Int) (k : Nat) : (gs.take k).sum = pre gs k := rfl
theorem sum_drop {gs : List Int} {k : Nat} : (gs.drop k).sum = gs.sum - pre gs k := by
  have h : (gs.take k ++ gs.drop k).sum = gs.sum := by rw [List.take_append_drop]
  rw [List.sum_append] at h
  unfold pre
  omega
theorem pre_all (gs : List Int) : pre gs gs.length = gs.sum := by unfold pre; rw [List.take_length]
def spLRes : Sp := fun vs H Q _ => ∃ (g : Addr) (gs : List Int) (m : Nat) (s : Int), vs = [.ref g, .int (m : Int), .int s] ∧ H g = some (.lst (gs.map V.int)) ∧ GapsOk gs ∧ 1 ≤ m ∧ m ≤ gs.length ∧
  ∀ u r H', H r = none → Same H H' → H' u = some (.tup [.int (per gs m), .ref r]) → H' r = some (.lst ((resid gs m s).map V.int)) → Q (.ref u) H'
def lrN : List Str := ["_law_gaps", "_law_count", "_law_start", "_law_first", "_law_offset", "_law_period", "_law_result", "_law_gap"]
theorem scLRes : FnScope lrN ["_law_gaps", "_law_count", "_law_start"] (defScope s_law_residues) := ⟨rfl, rfl, rfl, by decide +kernel, rfl, by decide +kernel, by decide +kernel⟩
theorem ok_lres {f C : Addr} {fd : FuncData} (F : Fun K "_law_residues" "_law_residues" s_law_residues f fd) (T : Txt K mg C) : FnOk P w K mg base CX0 1 f fd ["_law_gaps", "_law_count", "_law_start"] spLRes := by
  refine F.ok scLRes (fun vs H Q E h => ?_) (fun cdv A outer s H vs Q E hr h => ?_)
  · obtain ⟨g, gs, m, s, rfl, _⟩ := h
    rfl
  · obtain ⟨g, gs, m, st, rfl, hg, okG, h1, h2, k⟩ := h
    have hg20 := okG.1
    have hp := per_bd okG h1 h2
    refine ⟨_, (pss_cons (ps_set (i := 3) scLRes.nd rfl (Or.inl rfl) (pe_op op_sub (pe_callB call_len_seq (by rfl) T.len (by decide +kernel) (pa_cons (pv 0) pa_nil)) (pv 1))) (pss_cons (ps_set (i := 4) scLRes.nd rfl (Or.inl rfl) (pe_callB (cr_sum rfl) (by rfl) T.sum (by decide +kernel) (pa_cons (pe_slice sl_list (pv 0) po_none (po_some (pv 3))) pa_nil))) (pss_cons (ps_set (i := 5) scLRes.nd rfl (Or.inl rfl) (pe_callB (cr_sum rfl) (by rfl) T.sum (by decide +kernel) (pa_cons (pe_slice sl_list (pv 0) (po_some (pv 3)) po_none) pa_nil))) (pss_cons (ps_set (i := 6) scLRes.nd rfl (Or.inl rfl) (pe_lst pa_nil)) (pss_cons (ps_for PassesOwn.never rfl (pi_list (pe_slice sl_list (pv 0) (po_some (pv 3)) po_none)) (pg_name (i := 7) scLRes.nd rfl (Or.inl rfl)) (pss_cons (ps_expr (pe_bm PySem.F.plainAttrs_list PySem.F.slot_list_append PySem.F.type_list_append mt_append (pv 6) (pa_cons (pe_op op_mod (pe_callTy call_int1 (by rfl) T.int (by decide +kernel) (pa_cons (pe_op op_add (pv 2) (pv 4)) pa_nil)) (pv 5)) pa_nil))) (pss_one (ps_set (i := 4) scLRes.nd rfl (Or.inl rfl) (pe_op op_add (pv 4) (pv 7)))))) (pss_one (ps_ret (pe_tup (pa_cons (pv 5) (pa_cons (pv 6) pa_nil)))))))))), ?_⟩
    refine ⟨_, rfl, g, _, rfl, .inl (SqL.of hg), _, rfl, _, _, rfl, rfl, ?_⟩
    have e1 : (((gs.map V.int).length : Nat) : Int) - (m : Int) = ((gs.length - m : Nat) : Int) := by rw [List.length_map]; omega
    dsimp only [gName]
    rw [e1]
    -- the first offset
    refine ⟨_, rfl, _, rfl, _, rfl, g, _, rfl, SqL.of hg, fun l1 hl1 => ?_⟩
    rw [cut_to, ← List.map_take]
    have s1 := same_new (o := .lst ((gs.take (gs.length - m)).map V.int)) hl1
    refine ⟨l1, gs.take (gs.length - m), rfl, SqL.of upd_same, ?_⟩
    rw [sum_take]
    -- the period
    refine ⟨_, rfl, _, rfl, _, rfl, g, _, rfl, SqL.of (s1 _ _ hg), fun l2 hl2 => ?_⟩
    rw [cut_from _ (by rw [List.length_map]; omega), ← List.map_drop]
    have s2 := s1.trans (same_new (o := .lst ((gs.drop (gs.length - m)).map V.int)) hl2)
    refine ⟨l2, gs.drop (gs.length - m), rfl, SqL.of upd_same, ?_⟩
    have ep : (gs.drop (gs.length - m)).sum = per gs m := by rw [sum_drop, ← pre_all]; rfl
    rw [ep]
    refine ⟨by show 0 ≤ sizeLine; decide, fun r hrn => ?_⟩
    have s3 := s2.trans (same_new (o := .lst []) hrn)
    refine ⟨_, rfl, _, rfl, _, rfl, g, _, rfl, SqL.of (s3 _ _ hg), fun l3 hl3 => ?_⟩
    rw [cut_from _ (by rw [List.length_map]; omega), ← List.map_drop]
    have hr0 := same_new (o := .lst ((gs.drop (gs.length - m)).map V.int)) hl3 _ _ (upd_same (o := HO.lst []))
    have s4 := s3.trans (same_new (o := .lst ((gs.drop (gs.length - m)).map V.int)) hl3)
    have hl3' := upd_same (H := upd (upd (upd H l1 (.lst ((gs.take (gs.length - m)).map V.int))) l2 (.lst ((gs.drop (gs.length - m)).map V.int))) r (.lst [])) (a := l3) (o := .lst ((gs.drop (gs.length - m)).map V.int))
    have hHr : H r = none := s2.free hrn
    generalize (upd (upd (upd (upd H l1 (.lst ((gs.take (gs.length - m)).map V.int))) l2 (.lst ((gs.drop (gs.length - m)).map V.int))) r (.lst [])) l3 (.lst ((gs.drop (gs.length - m)).map V.int))) = H4 at s4 hl3' hr0 ⊢
    have nl3 : l3 ≠ r := fun z => by rw [z] at hl3; rw [upd_same] at hl3; cases hl3
    have hdl : (gs.drop (gs.length - m)).length = m := by rw [List.length_drop]; omega
    refine ⟨l3, rfl, ⟨_, SqL.of hl3'⟩, for_list (a := l3) (xs := (gs.drop (gs.length - m)).map V.int) (fun i σ H' => Kx r H4 H' ∧ (∃ v7, σ = [some (.ref g), some (.int (m : Int)), some (.int st), some (.int ((gs.length - m : Nat) : Int)), some (.int (pre gs (gs.length - m + i))), some (.int (per gs m)), some (.ref r), v7]) ∧ H' r = some (.lst (((resid gs m st).take i).map V.int)))
      ⟨Kx.refl _ _, ⟨none, rfl⟩, hr0⟩ (fun i σ H' _ p => SqL.of (p.1 _ _ nl3 hl3')) ?_ ?_⟩
    · rintro i x σ H5 hx ⟨kx, ⟨v7, rfl⟩, hr5⟩
      have hi := (List.getElem?_eq_some_iff.mp hx).1
      rw [List.length_map, hdl] at hi
      obtain ⟨y, hy, rfl⟩ := map_of hx
      rw [List.getElem?_drop] at hy
      refine ⟨_, rfl, .inl ⟨rfl, _, SqL.of hr5⟩, _, rfl, _, rfl, _, _, rfl, rfl, ?_⟩
      refine .inl ⟨_, rfl, ?_⟩
      refine ⟨_, rfl, ?_⟩
      refine ⟨_, _, rfl, rfl, (by show (0 : Int) < per gs m; omega), ?_⟩
      refine ⟨r, _, _, rfl, rfl, hr5, ?_, ?_⟩
      · rw [List.length_map, List.length_take]
        exact small1000 (by rw [resid_len]; omega)
      refine ⟨_, rfl, _, rfl, _, _, rfl, rfl, kx.trans Kx.upd, ⟨some (.int y), ?_⟩, ?_⟩
      · rw [show gs.length - m + (i + 1) = gs.length - m + i + 1 by omega, pre_succ gs hy]
        rfl
      · have e : (resid gs m st)[i]? = some ((st + pre gs (gs.length - m + i)) % per gs m) := by
          unfold resid repOffs
          rw [List.getElem?_map, List.getElem?_map, List.getElem?_range hi]
          rfl
        rw [upd_same, List.take_add_one, e, List.map_append]
        rfl
    · rintro σ H5 ⟨kx, ⟨v7, rfl⟩, hr5⟩
      rw [List.length_map, hdl, List.take_of_length_le (by rw [resid_len]; omega)] at hr5
      refine ⟨_, rfl, _, rfl, (by show 2 ≤ sizeLine; decide), fun u hu => ?_⟩
      have s5 : Same H H5 := fun b o e => kx _ _ (ne_of_none e hHr) (s4 _ _ e)
      exact k u r _ hHr (s5.trans (same_new hu)) upd_same (same_new hu _ _ hr5)
end
end RS
namespace RS
open PySem L2
section
variable {P : Program} {w : World} {K : PySem.W.Frag} {mg : Str → Option Value} {base : Heap}
/-! ### the law's own differences -/
def spLDue : Sp := fun vs H Q _ => ∃ (g : Addr) (gs : List Int) (m : Nat), vs = [.ref g, .int (m : Int)] ∧ H g = some (.lst (gs.map V.int)) ∧ GapsOk gs ∧ 1 ≤ m ∧ m ≤ gs.length ∧
  ∀ q u ks H', H q = none → H u = none → Same H H' → SetOf ks (difs gs m) → ks.length ≤ 400 → H' q = some (.tup [.int (per gs m), .ref u]) → H' u = some (.lst (ks.map V.int)) → Q (.ref q) H'
def duN : List Str := ["_law_gaps", "_law_count", "_law_period", "_law_own", "_law_found", "_law_one", "_law_other"]
theorem scDue : FnScope duN ["_law_gaps", "_law_count"] (defScope s_law_due) := ⟨rfl, rfl, rfl, by decide +kernel, rfl, by decide +kernel, by decide +kernel⟩
theorem ok_ldue {f C fR : Addr} {fd fdR : FuncData} (F : Fun K "_law_due" "_law_due" s_law_due f fd) (T : Txt K mg C) (GR : FnOk P w K mg base CX0 1 fR fdR ["_law_gaps", "_law_count", "_law_start"] spLRes) (bR : Binds K fdR ["_law_gaps", "_law_count", "_law_start"] []) (mR : mg "_law_residues" = some (.ref fR)) (kR : PySem.W.keepIn K (.ref fR) = true) : FnOk P w K mg base CX0 2 f fd ["_law_gaps", "_law_count"] spLDue := by
  refine F.ok scDue (fun vs H Q E h => ?_) (fun cdv A outer s H vs Q E hr h => ?_)
  · obtain ⟨g, gs, m, rfl, _⟩ := h
    rfl
  · obtain ⟨g, gs, m, rfl, hg, okG, hm1, hm2, k⟩ := h
    refine ⟨_, (pss_cons (ps_asg (pe_call GR hr rfl mR kR bR .nil pass0 (pa_cons (pv 0) (pa_cons (pv 1) (pa_cons pe_int pa_nil)))) (pg_tup rfl (pgs_cons (pg_name (i := 2) scDue.nd rfl (Or.inr rfl)) (pgs_cons (pg_name (i := 3) scDue.nd rfl (Or.inl rfl)) pgs_nil)))) (pss_cons (ps_set (i := 4) scDue.nd rfl (Or.inl rfl) (pe_lst pa_nil)) (pss_cons (ps_for PassesOwn.never rfl (pi_list (pv 3)) (pg_name (i := 5) scDue.nd rfl (Or.inr rfl)) (pss_one (ps_expr (pe_bm PySem.F.plainAttrs_list PySem.F.slot_list_extend PySem.F.type_list_extend mt_extend (pv 4) (pa_cons (pe_lc (own := [("_law_other", 6)]) (g := gName 6) (tt := tYes) rfl scDue.nd (pi_list (pv 3)) (blkOk_by (own := [("_law_other", 6)]) (N := duN) (sc := (defScope s_law_due)) (by decide +kernel)) (fun _ _ _ _ _ => (pg_name (i := 6) scDue.nd rfl (Or.inl rfl))) (fun _ _ _ _ _ => pts_nil) (fun _ _ _ _ _ => (pe_op op_mod (pe_callTy call_int1 (by rfl) T.int (by decide +kernel) (pa_cons (pe_op op_sub (pv 5) (pv 6)) pa_nil)) (pv 2)))) pa_nil))))) (pss_one (ps_ret (pe_tup (pa_cons (pv 2) (pa_cons (pe_callB (cr_sortedSetB rfl) (by rfl) T.sorted (by decide +kernel) (pa_cons (pe_callTy (cr_setL rfl) (by rfl) T.set (by decide +kernel) (pa_cons (pv 4) pa_nil)) pa_nil)) pa_nil)))))))), ?_⟩
    have hg20 := okG.1
    have hp := per_bd okG hm1 hm2
    have hrl : (resid gs m 0).length = m := resid_len _ _ _
    refine ⟨_, rfl, _, rfl, g, gs, m, 0, rfl, hg, okG, hm1, hm2, fun u r H1 hr0 S1 hu1 hr1 => ?_⟩
    refine ⟨u, _, rfl, SqT.of hu1, rfl, _, _, rfl, _, _, rfl, rfl, ?_⟩
    refine ⟨by show 0 ≤ sizeLine; decide, fun fo hfo => ?_⟩
    refine ⟨_, rfl, r, rfl, ⟨_, SqL.of (same_new hfo _ _ hr1)⟩, for_list (a := r) (xs := (resid gs m 0).map V.int) (fun i σ H' => Same H1 H' ∧ ∃ v5, ∃ acc : List Int, σ = [some (.ref g), some (.int (m : Int)), some (.int (per gs m)), some (.ref r), some (.ref fo), v5, none] ∧ H' fo = some (.lst (acc.map V.int)) ∧ acc = ((resid gs m 0).take i).flatMap (fun x => (resid gs m 0).map fun y => (x - y) % per gs m) ∧ acc.length = i * m)
      ⟨same_new hfo, none, [], rfl, upd_same, by rw [List.take_zero]; rfl, by simp⟩ (fun i σ H' _ z => SqL.of (z.1 _ _ hr1)) ?_ ?_⟩
    · rintro i x σ H2 hx ⟨S2, v5, acc, rfl, hf2, eacc, hacc⟩
      obtain ⟨x, hx', rfl⟩ := map_of hx
      have him : i < m := by
        have := (List.getElem?_eq_some_iff.mp hx').1
        omega
      have hmm : i * m + m ≤ 400 := by
        have := Nat.mul_le_mul (show i + 1 ≤ 20 by omega) (show m ≤ 20 by omega)
        rw [Nat.add_mul, Nat.one_mul] at this
        exact this
      refine ⟨_, rfl, .inl ⟨rfl, _, SqL.of hf2⟩, _, rfl, r, rfl, ⟨_, SqL.of (S2 _ _ hr1)⟩, fun D hD => lc_map (a := r) (xs := (resid gs m 0).map V.int) (((resid gs m 0).map fun y => (x - y) % per gs m).map V.int) (SqL.of (S2 _ _ hr1)) hD (by simp) (by rw [List.length_map]; omega) (fun j y z H3 Q3 hy hz S3 q => ?_) (fun H3 S3 h3 => ?_)⟩
      · obtain ⟨y, hy', rfl⟩ := map_of hy
        have ez : z = .int ((x - y) % per gs m) := by
          rw [List.getElem?_map, List.getElem?_map, hy'] at hz
          exact (Option.some.inj hz).symm
        subst ez
        exact ⟨rfl, _, rfl, _, rfl, _, _, rfl, rfl, .inl ⟨_, rfl, _, rfl, _, _, rfl, rfl, (by show (0 : Int) < per gs m; omega), q _ (Same.refl _)⟩⟩
      refine ⟨fo, D, _, _, rfl, rfl, S3 _ _ hf2, h3, by simp only [List.length_map]; exact Nat.le_of_lt (small1000 (by omega)), ?_⟩
      refine ⟨same_app hfo (S2.trans S3), _, acc ++ (resid gs m 0).map (fun y => (x - y) % per gs m), rfl, ?_, ?_, ?_⟩
      · rw [upd_same, List.map_append]
      · rw [List.take_add_one, hx', List.flatMap_append, ← eacc]
        simp
      · rw [List.length_append, List.length_map, hrl, hacc, Nat.add_mul, Nat.one_mul]
    rintro σ H2 ⟨S2, v5, acc, rfl, hf2, eacc, hacc⟩
    rw [List.length_map, hrl] at hacc
    have hmm : m * m ≤ 400 := Nat.le_trans (Nat.mul_le_mul (by omega : m ≤ 20) (by omega : m ≤ 20)) (by decide)
    have ed : acc = difs gs m := by
      rw [eacc, List.length_map, List.take_length]
      rfl
    refine ⟨_, rfl, _, rfl, fo, acc, rfl, SqL.of hf2, by omega, fun p2 c hp2 hc => ?_⟩
    refine ⟨p2, _, _, rfl, upd_same, by omega, fun ks q2 h2 h3 h4 hq2 => ?_⟩
    have S3 := (S1.trans S2).trans ((same_new hp2).trans (same_new (o := .lst (ks.map V.int)) hq2))
    refine ⟨by show 2 ≤ sizeLine; decide, fun tt htt => ?_⟩
    have S4 := S3.trans (same_new (o := .tup [.int (per gs m), .ref q2]) htt)
    refine k tt q2 ks _ (S3.free htt) ((S1.trans S2).free ((same_new hp2).free hq2)) S4 ⟨h2, fun j => by rw [h3 j, decide_eq_true_iff, ed]⟩ (by omega) upd_same (same_new htt _ _ upd_same)
end
end RS
namespace RS
open PySem L2
section
variable {P : Program} {w : World} {K : PySem.W.Frag} {mg : Str → Option Value} {base : Heap}
theorem end_cmp {p : Prop} [Decidable p] {A B : Prop} (hp : ¬ p) (h : B) : if decide p = true then A else B := iteFb (decide_eq_false hp) h
/-! ### _check_attempt -/
def spCheck (C : Addr) : Sp := fun vs H Q _ => ∃ (p g t o : Addr) (gs : List Int) (tl : Tl) (n : Nat), vs = [.ref p, .int (n : Int)] ∧ RuleAt C H p g t o gs tl ∧ AttOk gs tl n ∧ Q .non H
theorem scCheck : FnScope ["self", "attempt"] ["self", "attempt"] (defScope s_Rule_check_attempt) := ⟨rfl, rfl, rfl, by decide +kernel, rfl, by decide +kernel, by decide +kernel⟩
theorem ok_check {f C fi : Addr} {fd fdi : FuncData} (F : Fun K "_check_attempt" "Rule._check_attempt" s_Rule_check_attempt f fd) (T : Txt K mg C) (FI : Fun K "is_integer" "is_integer" s_is_integer fi fdi) (bI : Binds K fdi ["value"] []) (mI : mg "is_integer" = some (.ref fi)) :
    FnOk P w K mg base CX0 2 f fd ["self", "attempt"] (spCheck C) := by
  have GI : FnOk P w K mg base CX0 1 fi fdi ["value"] spIsInt := ok_isInt FI T
  obtain ⟨t1, m1⟩ := T.mLast
  refine F.ok scCheck (fun vs H Q E h => ?_) (fun cdv A outer s H vs Q E hr h => ?_)
  · obtain ⟨p, g, t, o, gs, tl, n, rfl, _⟩ := h
    rfl
  · obtain ⟨p, g, t, o, gs, tl, n, rfl, R, ok, k⟩ := h
    refine ⟨_, (pss_cons (ps_if (PW.pt (pw_or (pt_not (pt_val (pe_call GI hr rfl mI FI.kp bI .nil pass0 (pa_cons (pv 1) pa_nil)))) (pw_or1 (pt_cmpR op_lt (pv 1) pe_int (nomark _))))) (pss_one ps_never) pss_nil) (pss_cons (ps_if (PW.pt (pw_and (pt_cmpR op_eq (pe_ix ix_tup (pe_fld (pv 0) rfl) pe_int (fun _ _ => rfl)) pe_str (nomark _)) (pw_and1 (pt_cmpR op_ge (pv 1) (pe_callB call_len_seq (by rfl) T.len (by decide +kernel) (pa_cons (pe_fld (pv 0) rfl) pa_nil)) (nomark _))))) (pss_one ps_never) pss_nil) (pss_one (ps_if (PW.pt (pw_and (pt_cmpR op_eq (pe_ix ix_tup (pe_fld (pv 0) rfl) pe_int (fun _ _ => rfl)) pe_str (nomark _)) (pw_and1 (pt_cmpR op_gt (pv 1) (pe_glob (v := .int 1000) rfl m1 ⟨_, rfl⟩) (nomark _))))) (pss_one ps_never) pss_nil)))), ?_⟩
    refine ⟨_, rfl, _, rfl, true, rfl, iteF ⟨_, rfl, _, _, rfl, rfl, _, rfl, iteFb (decide_eq_false (by omega)) ?_⟩⟩
    refine rdIs T R rfl ?_
    cases tl with
    | fin =>
      refine iteTb wEE ?_
      refine ⟨_, rfl, rdO T R rfl ⟨o, _, rfl, .inl (SqL.of R.ho), _, _, rfl, rfl, _, rfl, iteFb (decide_eq_false ?_) ?_⟩⟩
      · rw [List.length_map, offs_len]
        have : n ≤ gs.length := ok
        omega
      · exact rdIs T R rfl (iteFb wET (iteF k))
    | times b =>
      refine iteFb wTE ?_
      refine iteF ?_
      refine rdIs T R rfl (iteTb wTT ⟨_, rfl, _, _, rfl, rfl, _, rfl, iteFb (decide_eq_false ?_) k⟩)
      have : n ≤ 1000 := ok
      omega
    | rep m =>
      refine iteFb wRE ?_
      refine iteF ?_
      exact rdIs T R rfl (iteFb wRT (iteF k))
/-! ### _offset_of -/
def spOff (C : Addr) : Sp := fun vs H Q _ => ∃ (p g t o : Addr) (gs : List Int) (tl : Tl) (n : Nat), vs = [.ref p, .int (n : Int)] ∧ RuleAt C H p g t o gs tl ∧ AttOk gs tl n ∧ ∀ H', Same H H' → Q (.int (off gs tl n)) H'
theorem scOff : FnScope ["self", "attempt", "further", "factor", "periods", "rest"] ["self", "attempt"] (defScope s_Rule_offset_of) := ⟨rfl, rfl, rfl, by decide +kernel, rfl, by decide +kernel, by decide +kernel⟩
theorem ok_off {f C fR fP fW : Addr} {fd fdR fdP fdW : FuncData} (F : Fun K "_offset_of" "Rule._offset_of" s_Rule_offset_of f fd) (T : Txt K mg C) (FR : Fun K "first_repeating" "Rule.first_repeating" s_Rule_first_repeating fR fdR) (bR : Binds K fdR ["self"] []) (mR : Meth K C "first_repeating" fR)
    (FP : Fun K "period" "Rule.period" s_Rule_period fP fdP) (bP : Binds K fdP ["self"] []) (mP : Meth K C "period" fP) (FW : Fun K "_power" "_power" s_power fW fdW) (bW : Binds K fdW ["base", "exponent"] []) (mW : mg "_power" = some (.ref fW)) :
    FnOk P w K mg base CX0 3 f fd ["self", "attempt"] (spOff C) := by
  have GR : FnOk P w K mg base CX0 1 fR fdR ["self"] (spFR C) := ok_fr FR T
  have GP : FnOk P w K mg base CX0 2 fP fdP ["self"] (spPer C) := ok_per FP T FR bR mR
  have GW : FnOk P w K mg base CX0 1 fW fdW ["base", "exponent"] spPower := ok_power FW
  refine F.ok scOff (fun vs H Q E h => ?_) (fun cdv A outer s H vs Q E hr h => ?_)
  · obtain ⟨p, g, t, o, gs, tl, n, rfl, _⟩ := h
    rfl
  · obtain ⟨p, g, t, o, gs, tl, n, rfl, R, ok, k⟩ := h
    have hr1 := hr.mono (show 1 ≤ 2 by decide)
    refine ⟨_, (pss_cons (ps_if (pt_cmpR op_lt (pv 1) (pe_callB call_len_seq (by rfl) T.len (by decide +kernel) (pa_cons (pe_fld (pv 0) rfl) pa_nil)) (nomark _)) (pss_one (ps_ret (pe_ix ix_list (pe_fld (pv 0) rfl) (pv 1) (fun _ _ => rfl)))) pss_nil) (pss_cons (ps_set (i := 2) scOff.nd rfl (Or.inl rfl) (pe_op op_sub (pv 1) (pe_callB call_len_seq (by rfl) T.len (by decide +kernel) (pa_cons (pe_fld (pv 0) rfl) pa_nil)))) (pss_cons (ps_if (pt_cmpR op_eq (pe_ix ix_tup (pe_fld (pv 0) rfl) pe_int (fun _ _ => rfl)) pe_str (nomark _)) (pss_cons (ps_set (i := 3) scOff.nd rfl (Or.inl rfl) (pe_ix ix_tup (pe_fld (pv 0) rfl) pe_int (fun _ _ => rfl))) (pss_one (ps_ret (pe_op op_add (pe_ix ix_list (pe_fld (pv 0) rfl) (pe_un un_neg pe_int) (fun _ _ => rfl)) (pe_op op_fdiv (pe_op op_mul (pe_op op_mul (pe_ix ix_list (pe_fld (pv 0) rfl) (pe_un un_neg pe_int) (fun _ _ => rfl)) (pv 3)) (pe_op op_sub (pe_call GW hr1 rfl mW FW.kp bW .nil pass0 (pa_cons (pv 3) (pa_cons (pv 2) pa_nil))) pe_int)) (pe_op op_sub (pv 3) pe_int)))))) pss_nil) (pss_cons (ps_asg (pe_callB call_divmod (by rfl) T.divmod (by decide +kernel) (pa_cons (pv 2) (pa_cons (pe_ix ix_tup (pe_fld (pv 0) rfl) pe_int (fun _ _ => rfl)) pa_nil))) (pg_tup rfl (pgs_cons (pg_name (i := 4) scOff.nd rfl (Or.inl rfl)) (pgs_cons (pg_name (i := 5) scOff.nd rfl (Or.inl rfl)) pgs_nil)))) (pss_one (ps_ret (pe_op op_add (pe_ix ix_list (pe_fld (pv 0) rfl) (pe_op op_add (pe_meth0 (pv 0) T.cl mR GR hr1 bR .nil pass0) (pv 5)) (fun _ _ => rfl)) (pe_op op_mul (pe_op op_add (pv 4) pe_int) (pe_meth0 (pv 0) T.cl mP GP hr bP .nil pass0))))))))), ?_⟩
    refine ⟨_, rfl, rdO T R rfl ⟨o, _, rfl, .inl (SqL.of R.ho), _, _, rfl, rfl, _, rfl, ?_⟩⟩
    rw [List.length_map, offs_len]
    by_cases hn : n ≤ gs.length
    · refine iteTb (decide_eq_true (by omega)) ?_
      refine rdOx T R rfl ⟨_, rfl, o, _, _, _, rfl, rfl, SqL.of R.ho, at_map (offs_get gs hn), ?_⟩
      have e : off gs tl n = pre gs n := if_pos hn
      rw [← e]
      exact k H (Same.refl H)
    · refine end_cmp (by omega) ?_
      refine ⟨_, rfl, ?_⟩
      refine rdG T R rfl ⟨g, _, rfl, .inl (SqL.of R.hg), _, _, rfl, rfl, ?_⟩
      have ef : ((n : Int) - (((gs.map V.int).length : Nat) : Int)) = ((n - gs.length : Nat) : Int) := by
        rw [List.length_map]
        omega
      show tSeq _ _ _ (List.set _ 2 (some (V.int ((n : Int) - (((gs.map V.int).length : Nat) : Int))))) H
      rw [ef]
      refine rdIs T R rfl ?_
      cases tl with
      | fin => exact absurd ok hn
      | times b =>
        have hl := R.okT.1
        have hb0 := R.okT.2.1
        have hb1 := R.okT.2.2
        have hn1 : n ≤ 1000 := ok
        have hg := gap_bd R.okG (k := gs.length - 1) (by omega)
        have hg : 1 ≤ lastG gs ∧ lastG gs ≤ 1000000000000 := hg
        have hgb1 : lastG gs * b ≤ 1000000000000 * 1000 := Int.mul_le_mul hg.2 hb1 (by omega) (by omega)
        have hgb0 : 0 ≤ lastG gs * b := Int.mul_nonneg (by omega) (by omega)
        refine iteTb wTT ?_
        refine rdB T R rfl ?_
        refine rdLastO T R rfl ?_
        refine rdLast T R rfl hl ⟨_, rfl, _, _, rfl, rfl, .inl ⟨by omega, by omega⟩, ?_⟩
        refine ⟨_, rfl, _, rfl, b, n - gs.length, rfl, by omega, by omega, by omega, _, _, rfl, rfl, _, _, rfl, rfl, .inl ⟨by omega, by omega⟩, ?_⟩
        refine ⟨_, rfl, _, _, rfl, rfl, _, _, rfl, rfl, ⟨by omega, by omega⟩, _, _, rfl, rfl, ?_⟩
        have e : off gs (.times b) n = pre gs gs.length + lastG gs * b * (b ^ (n - gs.length) - 1) / (b - 1) := if_neg hn
        rw [e] at k
        exact k H (Same.refl H)
      | rep m =>
        have hm0 := R.okT.1
        have hm1 := R.okT.2
        have hp := per_bd R.okG hm0 hm1
        refine iteFb wRT ?_
        refine ⟨_, rfl, ?_⟩
        refine rdN T R rfl ⟨_, _, rfl, ⟨by omega, by have := R.okG.1; omega⟩, fun q hq => ?_⟩
        have S : Same H (upd H q (.tup [.int (((n - gs.length : Nat) : Int) / (m : Int)), .int (((n - gs.length : Nat) : Int) % (m : Int))])) := same_new hq
        have R2 := R.mono S
        refine ⟨q, _, rfl, SqT.of upd_same, rfl, _, _, rfl, _, _, rfl, rfl, ?_⟩
        obtain ⟨dx, hob⟩ := R2.ob
        have e1 : (((n - gs.length : Nat) : Int) % (m : Int)) = (((n - gs.length) % m : Nat) : Int) := rfl
        have e2 : (((n - gs.length : Nat) : Int) / (m : Int)) = (((n - gs.length) / m : Nat) : Int) := rfl
        have hr0 : (n - gs.length) % m < m := Nat.mod_lt _ (by omega)
        have nF : (flds g t o).lookup ("first_repeating" : Str) = none := flds_no _ _ _ (by decide +kernel) (by decide +kernel) (by decide +kernel)
        have nP : (flds g t o).lookup ("period" : Str) = none := flds_no _ _ _ (by decide +kernel) (by decide +kernel) (by decide +kernel)
        refine rdOx T R2 rfl ⟨_, rfl, p, dx, _, rfl, hob, nF, p, g, t, o, gs, m, rfl, R2, _, rfl, _, _, rfl, rfl, ?_⟩
        refine ⟨o, _, _, .int (pre gs (gs.length - m + (n - gs.length) % m)), rfl, rfl, SqL.of R2.ho, ?_, ?_⟩
        · rw [e1, ← Int.natCast_add]
          exact at_map (offs_get gs (by omega))
        · refine ⟨_, rfl, _, _, rfl, rfl, _, rfl, p, dx, _, rfl, hob, nP, p, g, t, o, gs, .rep m, rfl, R2, ?_⟩
          refine ⟨_, _, rfl, rfl, .inr ⟨by omega, by omega⟩, _, _, rfl, rfl, ?_⟩
          have e : off gs (.rep m) n = pre gs (gs.length - m + (n - gs.length) % m) + (((n - gs.length) / m : Nat) + 1) * per gs m := if_neg hn
          rw [e] at k
          exact k _ S
/-! ### offset -/
theorem scOffset : FnScope ["self", "attempt"] ["self", "attempt"] (defScope s_Rule_offset) := ⟨rfl, rfl, rfl, by decide +kernel, rfl, by decide +kernel, by decide +kernel⟩
theorem ok_offset {f C fC fO : Addr} {fd fdC fdO : FuncData} (F : Fun K "offset" "Rule.offset" s_Rule_offset f fd) (T : Txt K mg C) (mC : Meth K C "_check_attempt" fC) (bC : Binds K fdC ["self", "attempt"] []) (mO : Meth K C "_offset_of" fO) (bO : Binds K fdO ["self", "attempt"] [])
    (GC : FnOk P w K mg base CX0 2 fC fdC ["self", "attempt"] (spCheck C)) (GO : FnOk P w K mg base CX0 3 fO fdO ["self", "attempt"] (spOff C)) : FnOk P w K mg base CX0 4 f fd ["self", "attempt"] (spOff C) := by
  refine F.ok scOffset (fun vs H Q E h => ?_) (fun cdv A outer s H vs Q E hr h => ?_)
  · obtain ⟨p, g, t, o, gs, tl, n, rfl, _⟩ := h
    rfl
  · obtain ⟨p, g, t, o, gs, tl, n, rfl, R, ok, k⟩ := h
    refine ⟨_, (pss_cons (ps_expr (pe_meth (pv 0) T.cl mC GC (hr.mono (by decide)) bC .nil pass0 (pa_cons (pv 1) pa_nil))) (pss_one (ps_ret (pe_meth (pv 0) T.cl mO GO hr bO .nil pass0 (pa_cons (pv 1) pa_nil))))), ?_⟩
    obtain ⟨dx, hob⟩ := R.ob
    refine ⟨_, rfl, p, dx, _, rfl, hob, flds_no _ _ _ (by decide +kernel) (by decide +kernel) (by decide +kernel), _, rfl, p, g, t, o, gs, tl, n, rfl, R, ok, ?_⟩
    exact ⟨_, rfl, p, dx, _, rfl, hob, flds_no _ _ _ (by decide +kernel) (by decide +kernel) (by decide +kernel), _, rfl, p, g, t, o, gs, tl, n, rfl, R, ok, k⟩
/-! ### gap -/
def spGap (C : Addr) : Sp := fun vs H Q _ => ∃ (p g t o : Addr) (gs : List Int) (tl : Tl) (n : Nat), vs = [.ref p, .int (n : Int)] ∧ RuleAt C H p g t o gs tl ∧ AttOk gs tl n ∧ (tl = .fin → n < gs.length) ∧ Q (.int (gapf gs tl n)) H
theorem scGap : FnScope ["self", "attempt", "further"] ["self", "attempt"] (defScope s_Rule_gap) := ⟨rfl, rfl, rfl, by decide +kernel, rfl, by decide +kernel, by decide +kernel⟩
theorem ok_gap {f C fC fA fR fW : Addr} {fd fdC fdA fdR fdW : FuncData} (F : Fun K "gap" "Rule.gap" s_Rule_gap f fd) (T : Txt K mg C) (mC : Meth K C "_check_attempt" fC) (bC : Binds K fdC ["self", "attempt"] [])
    (GC : FnOk P w K mg base CX0 2 fC fdC ["self", "attempt"] (spCheck C)) (FA : Fun K "attempts" "Rule.attempts" s_Rule_attempts fA fdA) (bA : Binds K fdA ["self"] []) (mA : Meth K C "attempts" fA)
    (FR : Fun K "first_repeating" "Rule.first_repeating" s_Rule_first_repeating fR fdR) (bR : Binds K fdR ["self"] []) (mR : Meth K C "first_repeating" fR)
    (FW : Fun K "_power" "_power" s_power fW fdW) (bW : Binds K fdW ["base", "exponent"] []) (mW : mg "_power" = some (.ref fW)) : FnOk P w K mg base CX0 3 f fd ["self", "attempt"] (spGap C) := by
  have GA : FnOk P w K mg base CX0 1 fA fdA ["self"] (spAtt C) := ok_attempts FA T
  have GR : FnOk P w K mg base CX0 1 fR fdR ["self"] (spFR C) := ok_fr FR T
  have GW : FnOk P w K mg base CX0 1 fW fdW ["base", "exponent"] spPower := ok_power FW
  refine F.ok scGap (fun vs H Q E h => ?_) (fun cdv A outer s H vs Q E hr h => ?_)
  · obtain ⟨p, g, t, o, gs, tl, n, rfl, _⟩ := h
    rfl
  · obtain ⟨p, g, t, o, gs, tl, n, rfl, R, ok, okf, k⟩ := h
    have hr1 := hr.mono (show 1 ≤ 2 by decide)
    refine ⟨_, (pss_cons (ps_expr (pe_meth (pv 0) T.cl mC GC hr bC .nil pass0 (pa_cons (pv 1) pa_nil))) (pss_cons (ps_if (pt_cmpR op_eq (pe_op op_add (pv 1) pe_int) (pe_meth0 (pv 0) T.cl mA GA hr1 bA .nil pass0) (nomark _)) (pss_one ps_never) pss_nil) (pss_cons (ps_if (pt_cmpR op_lt (pv 1) (pe_callB call_len_seq (by rfl) T.len (by decide +kernel) (pa_cons (pe_fld (pv 0) rfl) pa_nil)) (nomark _)) (pss_one (ps_ret (pe_ix ix_list (pe_fld (pv 0) rfl) (pv 1) (fun _ _ => rfl)))) pss_nil) (pss_cons (ps_set (i := 2) scGap.nd rfl (Or.inl rfl) (pe_op op_sub (pv 1) (pe_callB call_len_seq (by rfl) T.len (by decide +kernel) (pa_cons (pe_fld (pv 0) rfl) pa_nil)))) (pss_cons (ps_if (pt_cmpR op_eq (pe_ix ix_tup (pe_fld (pv 0) rfl) pe_int (fun _ _ => rfl)) pe_str (nomark _)) (pss_one (ps_ret (pe_op op_mul (pe_ix ix_list (pe_fld (pv 0) rfl) (pe_un un_neg pe_int) (fun _ _ => rfl)) (pe_call GW hr1 rfl mW FW.kp bW .nil pass0 (pa_cons (pe_ix ix_tup (pe_fld (pv 0) rfl) pe_int (fun _ _ => rfl)) (pa_cons (pe_op op_add (pv 2) pe_int) pa_nil)))))) pss_nil) (pss_one (ps_ret (pe_ix ix_list (pe_fld (pv 0) rfl) (pe_op op_add (pe_meth0 (pv 0) T.cl mR GR hr1 bR .nil pass0) (pe_op op_mod (pv 2) (pe_ix ix_tup (pe_fld (pv 0) rfl) pe_int (fun _ _ => rfl)))) (fun _ _ => rfl))))))))), ?_⟩
    obtain ⟨dx, hob⟩ := R.ob
    have nF : (flds g t o).lookup ("first_repeating" : Str) = none := flds_no _ _ _ (by decide +kernel) (by decide +kernel) (by decide +kernel)
    have nA : (flds g t o).lookup ("attempts" : Str) = none := flds_no _ _ _ (by decide +kernel) (by decide +kernel) (by decide +kernel)
    refine ⟨_, rfl, p, dx, _, rfl, hob, flds_no _ _ _ (by decide +kernel) (by decide +kernel) (by decide +kernel), _, rfl, p, g, t, o, gs, tl, n, rfl, R, ok, ?_⟩
    refine ⟨_, rfl, _, _, rfl, rfl, _, rfl, p, dx, _, rfl, hob, nA, p, g, t, o, gs, tl, rfl, R, ?_⟩
    have hsc : scal (V.int ((n : Int) + 1)) (attV gs tl) = true := by cases tl <;> rfl
    have hne : decide (V.int ((n : Int) + 1) = attV gs tl) = false := by
      cases tl with
      | fin =>
        have := okf rfl
        refine decide_eq_false fun e => ?_
        have := V.int.inj e
        omega
      | times b => exact decide_eq_false fun e => by cases e
      | rep m => exact decide_eq_false fun e => by cases e
    refine ⟨hsc, _, rfl, iteFb hne ?_⟩
    refine ⟨_, rfl, rdG T R rfl ⟨g, _, rfl, .inl (SqL.of R.hg), _, _, rfl, rfl, _, rfl, ?_⟩⟩
    rw [List.length_map]
    by_cases hn : n < gs.length
    · refine iteTb (decide_eq_true (by omega)) ?_
      refine rdGx T R rfl ⟨_, rfl, g, _, _, _, rfl, rfl, SqL.of R.hg, at_map (getD_get hn), ?_⟩
      have e : gapf gs tl n = gs.getD n 0 := if_pos hn
      rw [← e]
      exact k
    · refine end_cmp (by omega) ?_
      refine ⟨_, rfl, ?_⟩
      refine rdG T R rfl ⟨g, _, rfl, .inl (SqL.of R.hg), _, _, rfl, rfl, ?_⟩
      have ef : ((n : Int) - (((gs.map V.int).length : Nat) : Int)) = ((n - gs.length : Nat) : Int) := by
        rw [List.length_map]
        omega
      show tSeq _ _ _ (List.set _ 2 (some (V.int ((n : Int) - (((gs.map V.int).length : Nat) : Int))))) H
      rw [ef]
      refine rdIs T R rfl ?_
      cases tl with
      | fin => exact absurd (okf rfl) hn
      | times b =>
        have hl := R.okT.1
        have hb0 := R.okT.2.1
        have hb1 := R.okT.2.2
        have hn1 : n ≤ 1000 := ok
        have hg := gap_bd R.okG (k := gs.length - 1) (by omega)
        have hg : 1 ≤ lastG gs ∧ lastG gs ≤ 1000000000000 := hg
        refine iteTb wTT ?_
        refine rdLast T R rfl hl ?_
        refine rdB T R rfl ⟨_, rfl, _, _, rfl, rfl, b, n - gs.length + 1, ?_, by omega, by omega, by omega, _, _, rfl, rfl, .inl ⟨by omega, by omega⟩, ?_⟩
        · rfl
        · have e : gapf gs (.times b) n = lastG gs * b ^ (n - gs.length + 1) := if_neg hn
          rw [e] at k
          exact k
      | rep m =>
        have hm0 := R.okT.1
        have hm1 := R.okT.2
        have hr0 : (n - gs.length) % m < m := Nat.mod_lt _ (by omega)
        refine iteFb wRT ?_
        refine rdGx T R rfl ⟨_, rfl, p, dx, _, rfl, hob, nF, p, g, t, o, gs, m, rfl, R, _, rfl, ?_⟩
        refine rdN T R rfl ⟨_, _, rfl, rfl, by omega, _, _, rfl, rfl, ?_⟩
        refine ⟨g, _, _, .int (gs.getD (gs.length - m + (n - gs.length) % m) 0), rfl, rfl, SqL.of R.hg, ?_, ?_⟩
        · rw [← Int.natCast_emod, ← Int.natCast_add]
          exact at_map (getD_get (by omega))
        · have e : gapf gs (.rep m) n = gs.getD (gs.length - m + (n - gs.length) % m) 0 := if_neg hn
          rw [e] at k
          exact k
end
end RS
namespace RS
open PySem L2
/-! ### the mathematics of offsets and gaps -/
def geo (b : Int) : Nat → Int
  | 0 => 0
  | k + 1 => geo b k + b ^ k
theorem geo_eq (b : Int) : ∀ k, b ^ k - 1 = (b - 1) * geo b k
  | 0 => by simp [geo]
  | k + 1 => by
    rw [geo, Int.mul_add, ← geo_eq b k, Int.pow_succ, Int.sub_mul, Int.one_mul, Int.mul_comm b (b ^ k)]
    omega
theorem geo_div {b : Int} (h : 2 ≤ b) (x : Int) (k : Nat) : x * (b ^ k - 1) / (b - 1) = x * geo b k := by
  rw [geo_eq, ← Int.mul_assoc, Int.mul_comm x (b - 1), Int.mul_assoc]
  exact Int.mul_ediv_cancel_left _ (by omega)
theorem off_low {gs : List Int} {tl : Tl} {n : Nat} (h : n ≤ gs.length) : off gs tl n = pre gs n := if_pos h
theorem off_times {gs : List Int} {b : Int} (h2 : 2 ≤ b) {n : Nat} (h : gs.length ≤ n) : off gs (.times b) n = pre gs gs.length + lastG gs * b * geo b (n - gs.length) := by
  by_cases e : n = gs.length
  · subst e
    rw [off_low (Nat.le_refl _), Nat.sub_self]
    simp [geo]
  · have e1 : off gs (.times b) n = pre gs gs.length + lastG gs * b * (b ^ (n - gs.length) - 1) / (b - 1) := if_neg (by omega)
    rw [e1, geo_div h2]
theorem off_rep {gs : List Int} {m : Nat} (h1 : 1 ≤ m) (h2 : m ≤ gs.length) {n : Nat} (h : gs.length ≤ n) : off gs (.rep m) n = pre gs (gs.length - m + (n - gs.length) % m) + (((n - gs.length) / m : Nat) + 1) * per gs m := by
  by_cases e : n = gs.length
  · subst e
    rw [off_low (Nat.le_refl _), Nat.sub_self, Nat.zero_mod, Nat.zero_div]
    unfold per
    simp
    omega
  · exact if_neg (by omega)
theorem gap_low {gs : List Int} {tl : Tl} {n : Nat} (h : n < gs.length) : gapf gs tl n = gs.getD n 0 := if_pos h
theorem gap_times {gs : List Int} {b : Int} {n : Nat} (h : gs.length ≤ n) : gapf gs (.times b) n = lastG gs * b ^ (n - gs.length + 1) := if_neg (by omega)
theorem gap_rep {gs : List Int} {m n : Nat} (h : gs.length ≤ n) : gapf gs (.rep m) n = gs.getD (gs.length - m + (n - gs.length) % m) 0 := if_neg (by omega)
theorem pre_succD {gs : List Int} {k : Nat} (h : k < gs.length) : pre gs (k + 1) = pre gs k + gs.getD k 0 := pre_succ gs (getD_get h)
/-- the next attempt lies one gap later -/
theorem off_succ {gs : List Int} {tl : Tl} (ok : TlOk gs.length tl) {n : Nat} (hf : tl = .fin → n < gs.length) : off gs tl (n + 1) = off gs tl n + gapf gs tl n := by
  by_cases h : n < gs.length
  · rw [off_low (by omega), off_low (by omega), gap_low h, pre_succD h]
  · cases tl with
    | fin => exact absurd (hf rfl) h
    | times b =>
      have h2 := ok.2.1
      rw [off_times h2 (by omega), off_times h2 (by omega), gap_times (by omega), show n + 1 - gs.length = (n - gs.length) + 1 by omega, geo, Int.mul_add, Int.pow_succ, Int.mul_assoc, Int.mul_assoc, Int.mul_comm (b ^ (n - gs.length)) b]
      omega
    | rep m =>
      have h1 : 1 ≤ m := ok.1
      have h2 : m ≤ gs.length := ok.2
      rw [off_rep h1 h2 (by omega), off_rep h1 h2 (by omega), gap_rep (by omega)]
      generalize hd : n - gs.length = d
      rw [show n + 1 - gs.length = d + 1 by omega]
      have hr : d % m < m := Nat.mod_lt _ (by omega)
      have e0 : m * (d / m) + d % m = d := Nat.div_add_mod d m
      by_cases hl : d % m + 1 < m
      · have e1 : (d + 1) % m = d % m + 1 := by
          rw [← e0, show m * (d / m) + d % m + 1 = (d % m + 1) + m * (d / m) by omega, Nat.add_mul_mod_self_left, Nat.mod_eq_of_lt hl, Nat.add_comm (m * (d / m)), Nat.add_mul_mod_self_left, Nat.mod_mod]
        have e2 : (d + 1) / m = d / m := by
          have h3 := Nat.div_add_mod (d + 1) m
          rw [e1] at h3
          have h4 : m * ((d + 1) / m) = m * (d / m) := by omega
          exact Nat.eq_of_mul_eq_mul_left (by omega) h4
        rw [e1, e2, show gs.length - m + (d % m + 1) = (gs.length - m + d % m) + 1 by omega, pre_succD (by omega)]
        omega
      · have e1 : d + 1 = m * (d / m + 1) := by
          rw [Nat.mul_add, Nat.mul_one]
          omega
        rw [e1, Nat.mul_mod_right, Nat.mul_div_cancel_left _ (by omega), show d % m = m - 1 by omega]
        have e3 : pre gs gs.length = pre gs (gs.length - m + (m - 1)) + gs.getD (gs.length - m + (m - 1)) 0 := by
          rw [← pre_succD (by omega), show gs.length - m + (m - 1) + 1 = gs.length by omega]
        have e4 : per gs m = pre gs gs.length - pre gs (gs.length - m) := rfl
        have e5 : ((d / m + 1 : Nat) + 1 : Int) * per gs m = ((d / m : Nat) + 1 : Int) * per gs m + per gs m := by
          rw [Int.natCast_add, Int.add_mul, Int.natCast_one, Int.one_mul]
        rw [e5, Nat.add_zero]
        omega
theorem gap_grow {gs : List Int} {b : Int} (h0 : 0 < gs.length) {n : Nat} (h : gs.length ≤ n) : gapf gs (.times b) n = gapf gs (.times b) (n - 1) * b := by
  rw [gap_times h]
  by_cases e : n = gs.length
  · subst e
    rw [gap_low (by omega), Nat.sub_self]
    show lastG gs * b ^ 1 = lastG gs * b
    rw [Int.pow_succ, Int.pow_zero, Int.one_mul]
  · rw [gap_times (by omega), show n - gs.length + 1 = (n - 1 - gs.length + 1) + 1 by omega, Int.pow_succ, Int.mul_assoc]
theorem off_later {gs : List Int} {m : Nat} (h1 : 1 ≤ m) (h2 : m ≤ gs.length) (a t : Nat) : off gs (.rep m) (a + gs.length + m * t) = off gs (.rep m) (a + gs.length) + (t : Int) * per gs m := by
  rw [off_rep h1 h2 (by omega), off_rep h1 h2 (by omega), show a + gs.length + m * t - gs.length = a + m * t by omega, show a + gs.length - gs.length = a by omega, Nat.add_mul_mod_self_left, Nat.add_mul_div_left _ _ (by omega), Int.natCast_add]
  rw [Int.add_mul, Int.add_mul, Int.add_mul]
  omega
theorem sum_take_drop (gs : List Int) (k : Nat) : (gs.take k).sum + (gs.drop k).sum = gs.sum := by
  rw [← List.sum_append, List.take_append_drop]
theorem per_sum {gs : List Int} (m : Nat) : (gs.drop (gs.length - m)).sum = per gs m := by
  have h := sum_take_drop gs (gs.length - m)
  have e : pre gs gs.length = gs.sum := by unfold pre; rw [List.take_length]
  unfold per
  rw [e]
  unfold pre
  omega
end RS
namespace RS
open PySem L2
/-! ### first attempts from a distance on: the mathematics -/
theorem gap_pos {gs : List Int} {tl : Tl} (okG : GapsOk gs) (okT : TlOk gs.length tl) {n : Nat} (hf : tl = .fin → n < gs.length) : 1 ≤ gapf gs tl n := by
  by_cases h : n < gs.length
  · rw [gap_low h]
    exact (gap_bd okG h).1
  · cases tl with
    | fin => exact absurd (hf rfl) h
    | times b =>
      rw [gap_times (by omega)]
      have h1 : 1 ≤ lastG gs := (gap_bd okG (k := gs.length - 1) (by have := okT.1; omega)).1
      have h2 : 0 < b ^ (n - gs.length + 1) := Int.pow_pos (by have := okT.2.1; omega)
      have h3 := Int.mul_le_mul h1 (show 1 ≤ b ^ (n - gs.length + 1) by omega) (by decide) (by omega)
      omega
    | rep m =>
      rw [gap_rep (by omega)]
      have h1 : (n - gs.length) % m < m := Nat.mod_lt _ (by have := okT.1; omega)
      exact (gap_bd okG (by have := okT.2; omega)).1
theorem off_mono {gs : List Int} {tl : Tl} (okG : GapsOk gs) (okT : TlOk gs.length tl) (i : Nat) : ∀ k, (tl = .fin → i + k ≤ gs.length) → off gs tl i + (k : Int) ≤ off gs tl (i + k)
  | 0, _ => by simp
  | k + 1, h => by
    have ih := off_mono okG okT i k fun e => by have := h e; omega
    have hf : tl = .fin → i + k < gs.length := fun e => by have := h e; omega
    have hg := gap_pos okG okT hf
    have hs := off_succ okT hf
    rw [show i + (k + 1) = i + k + 1 by omega, hs]
    omega
theorem off_lt {gs : List Int} {tl : Tl} (okG : GapsOk gs) (okT : TlOk gs.length tl) {i j : Nat} (h : i < j) (hf : tl = .fin → j ≤ gs.length) : off gs tl i < off gs tl j := by
  have := off_mono okG okT i (j - i) fun e => by have := hf e; omega
  rw [show i + (j - i) = j by omega] at this
  omega
theorem AttOk.fin {gs : List Int} {tl : Tl} {n : Nat} (h : AttOk gs tl n) : tl = .fin → n ≤ gs.length := fun e => by subst e; exact h
/-- what first_from hands back -/
def FF (gs : List Int) (tl : Tl) (d : Int) (r : V) : Prop := (r = .non ∧ tl = .fin ∧ pre gs gs.length < d) ∨ ∃ n : Nat, r = .int (n : Int) ∧ AttOk gs tl n ∧ d ≤ off gs tl n ∧ (0 < n → off gs tl (n - 1) < d)
theorem FF_one {gs : List Int} {tl : Tl} (okG : GapsOk gs) (okT : TlOk gs.length tl) {d : Int} {r s : V} (h1 : FF gs tl d r) (h2 : FF gs tl d s) : r = s := by
  have key : ∀ {n m : Nat}, AttOk gs tl n → AttOk gs tl m → d ≤ off gs tl n → (0 < m → off gs tl (m - 1) < d) → ¬ n < m := by
    intro n m hn hm h3 h4 h5
    have h6 := h4 (by omega)
    have h7 : off gs tl n ≤ off gs tl (m - 1) := by
      by_cases e : n = m - 1
      · rw [← e]
        exact Int.le_refl _
      · exact Int.le_of_lt (off_lt okG okT (by omega) fun e => by have := hm.fin e; omega)
    omega
  have low : ∀ {n : Nat}, tl = .fin → AttOk gs tl n → d ≤ off gs tl n → ¬ pre gs gs.length < d := by
    intro n e hn h3 h4
    subst e
    have hn : n ≤ gs.length := hn
    have h5 := off_mono okG okT n (gs.length - n) fun _ => by omega
    rw [show n + (gs.length - n) = gs.length by omega, off_low (Nat.le_refl gs.length)] at h5
    omega
  rcases h1 with ⟨rfl, e1, l1⟩ | ⟨n, rfl, a1, b1, c1⟩ <;> rcases h2 with ⟨rfl, e2, l2⟩ | ⟨m, rfl, a2, b2, c2⟩
  · rfl
  · exact absurd l1 (low e1 a2 b2)
  · exact absurd l2 (low e2 a1 b1)
  · have x := key a1 a2 b1 c2
    have y := key a2 a1 b2 c1
    rw [show n = m by omega]
/-- what attempt_at hands back -/
def AA (gs : List Int) (tl : Tl) (d : Int) (r : V) : Prop := ∃ a, FF gs tl d a ∧ ((∃ n : Nat, a = .int (n : Int) ∧ off gs tl n = d ∧ r = a) ∨ ((∀ n : Nat, a = .int (n : Int) → off gs tl n ≠ d) ∧ r = .non))
theorem off_turn {gs : List Int} {m : Nat} (h1 : 1 ≤ m) (h2 : m ≤ gs.length) {j : Nat} (hj0 : gs.length - m ≤ j) (hj1 : j ≤ gs.length) (q : Nat) : off gs (.rep m) (j + m * q) = pre gs j + (q : Int) * per gs m := by
  cases q with
  | zero =>
    rw [Nat.mul_zero, Nat.add_zero, off_low hj1]
    simp
  | succ q =>
    have e0 : m * (q + 1) = m * q + m := Nat.mul_succ m q
    rw [off_rep h1 h2 (by omega)]
    by_cases hj : j = gs.length
    · subst hj
      rw [show gs.length + m * (q + 1) - gs.length = m * (q + 1) by omega, Nat.mul_mod_right, Nat.mul_div_cancel_left _ (by omega), Nat.add_zero, Int.add_mul, Int.one_mul]
      have e1 : per gs m = pre gs gs.length - pre gs (gs.length - m) := rfl
      omega
    · rw [show j + m * (q + 1) - gs.length = (j - (gs.length - m)) + m * q by omega, Nat.add_mul_mod_self_left, Nat.add_mul_div_left _ _ (by omega), Nat.mod_eq_of_lt (by omega), Nat.div_eq_of_lt (by omega), Nat.zero_add, show gs.length - m + (j - (gs.length - m)) = j by omega]
      rw [Int.natCast_add, Int.natCast_one]
end RS
namespace RS
open PySem L2
section
variable {P : Program} {w : World} {K : PySem.W.Frag} {mg : Str → Option Value} {base : Heap}
/-! ### _first_at_least -/
def spFal : Sp := fun vs H Q _ => ∃ (o : Addr) (xs : List Int) (d : Int) (j : Nat), vs = [.ref o, .int d] ∧ H o = some (.lst (xs.map V.int)) ∧ j < xs.length ∧ d ≤ xs.getD j 0 ∧ ∀ n : Nat, n ≤ j → d ≤ xs.getD n 0 → (∀ i, i < n → xs.getD i 0 < d) → Q (.int (n : Int)) H
theorem scFal : FnScope ["offsets", "distance", "position"] ["offsets", "distance"] (defScope s_first_at_least) := ⟨rfl, rfl, rfl, by decide +kernel, rfl, by decide +kernel, by decide +kernel⟩
theorem ok_fal {f : Addr} {fd : FuncData} (F : Fun K "_first_at_least" "_first_at_least" s_first_at_least f fd) : FnOk P w K mg base CX0 1 f fd ["offsets", "distance"] spFal := by
  refine F.ok scFal (fun vs H Q E h => ?_) (fun cdv A outer s H vs Q E hr h => ?_)
  · obtain ⟨o, xs, d, j, rfl, _⟩ := h
    rfl
  · obtain ⟨o, xs, d, j, rfl, ho, hj, hd, k⟩ := h
    refine ⟨_, (pss_cons (ps_set (i := 2) scFal.nd rfl (Or.inl rfl) pe_int) (pss_cons (ps_while PassesOwn.never (pt_cmpR op_lt (pe_ix ix_list (pv 0) (pv 2) (fun _ _ => rfl)) (pv 1) (nomark _)) (pss_one (ps_set (i := 2) scFal.nd rfl (Or.inl rfl) (pe_op op_add (pv 2) pe_int)))) (pss_one (ps_ret (pv 2))))), ?_⟩
    refine ⟨fun m σ H' => H' = H ∧ ∃ i : Nat, i ≤ j ∧ m = j - i ∧ σ = [some (.ref o), some (.int d), some (.int (i : Int))] ∧ ∀ k, k < i → xs.getD k 0 < d, ⟨j, rfl, 0, Nat.zero_le _, rfl, rfl, fun k hk => absurd hk (Nat.not_lt_zero _)⟩, ?_⟩
    rintro m σ H' ⟨rfl, i, hi, rfl, rfl, hall⟩
    refine ⟨_, rfl, _, rfl, o, _, _, _, rfl, rfl, SqL.of ho, at_map (getD_get (by omega)), _, rfl, _, _, rfl, rfl, _, rfl, ?_⟩
    by_cases hlt : xs.getD i 0 < d
    · refine iteTb (decide_eq_true hlt) ?_
      have hne : i ≠ j := fun e => by subst e; omega
      refine ⟨fun σ' H2 => H2 = H' ∧ σ' = [some (.ref o), some (.int d), some (.int ((i : Int) + 1))], ?_, ?_⟩
      · rintro σ' H2 ⟨rfl, rfl⟩
        refine ⟨j - (i + 1), by omega, rfl, i + 1, by omega, rfl, rfl, fun k hk => ?_⟩
        by_cases e : k = i
        · subst e
          exact hlt
        · exact hall k (by omega)
      · exact ⟨_, rfl, _, _, rfl, rfl, rfl, rfl⟩
    · refine iteFb (decide_eq_false hlt) ?_
      exact ⟨_, rfl, k i hi (by omega) hall⟩
/-! ### _surely_short -/
theorem geo_short {b : Int} (h : 2 ≤ b) : ∀ k, b * geo b k < 2 * b ^ k
  | 0 => by simp [geo]
  | k + 1 => by
    have ih := geo_short h k
    have p : 0 < b ^ k := Int.pow_pos (by omega)
    have e : 2 * b ^ k ≤ b * b ^ k := Int.mul_le_mul_of_nonneg_right h (Int.le_of_lt p)
    rw [geo, Int.mul_add, Int.pow_succ, Int.mul_comm (b ^ k) b]
    omega
theorem bits_nat {n : Nat} (h : 0 < n) : ∃ j, Builtin.Int.intBits (n : Int) = j + 1 ∧ 2 ^ j ≤ n ∧ n < 2 ^ (j + 1) := by
  refine ⟨n.log2, ?_, Nat.log2_self_le (by omega), Nat.lt_log2_self⟩
  unfold Builtin.Int.intBits
  rw [if_neg (by simp; omega)]
  rfl
theorem short_ok {L b way : Int} (hL : 1 ≤ L) (hb : 2 ≤ b) (hw : 0 < way) {k : Nat} (h : (k : Int) ≤ (((Builtin.Int.intBits way : Nat) : Int) - ((Builtin.Int.intBits L : Nat) : Int) - 2) / ((Builtin.Int.intBits (b - 1) : Nat) : Int)) : 2 * L * b ^ k ≤ way := by
  obtain ⟨L, rfl⟩ := Int.eq_ofNat_of_zero_le (show 0 ≤ L by omega)
  obtain ⟨way, rfl⟩ := Int.eq_ofNat_of_zero_le (show 0 ≤ way by omega)
  obtain ⟨c, hc⟩ := Int.eq_ofNat_of_zero_le (show 0 ≤ b - 1 by omega)
  have eb : b = ((c + 1 : Nat) : Int) := by omega
  rw [hc] at h
  subst eb
  obtain ⟨w, ew, hw1, _⟩ := bits_nat (n := way) (by omega)
  obtain ⟨l, el, _, hl1⟩ := bits_nat (n := L) (by omega)
  obtain ⟨d, ed, _, hd1⟩ := bits_nat (n := c) (by omega)
  rw [ew, el, ed] at h
  have h2 : (k : Int) * ((d + 1 : Nat) : Int) ≤ ((w + 1 : Nat) : Int) - ((l + 1 : Nat) : Int) - 2 :=
    Int.le_trans (Int.mul_le_mul_of_nonneg_right h (by omega)) (Int.ediv_mul_le _ (by omega))
  rw [← Int.natCast_mul] at h2
  have h3 : k * (d + 1) + l + 2 ≤ w := by omega
  have p1 : (c + 1) ^ k ≤ (2 ^ (d + 1)) ^ k := Nat.pow_le_pow_left (by omega) k
  rw [← Nat.pow_mul, Nat.mul_comm] at p1
  have p2 : L * (c + 1) ^ k ≤ 2 ^ (l + 1) * 2 ^ (k * (d + 1)) := Nat.mul_le_mul (by omega) p1
  rw [← Nat.pow_add] at p2
  have p3 : 2 ^ (l + 1 + k * (d + 1)) * 2 ≤ 2 ^ w := by
    rw [← Nat.pow_succ]
    exact Nat.pow_le_pow_right (by decide) (by omega)
  have p4 : 2 * (L * (c + 1) ^ k) ≤ way := by omega
  rw [Int.mul_assoc]
  exact_mod_cast p4
def spSs (C : Addr) : Sp := fun vs H Q _ => ∃ (p g t o : Addr) (gs : List Int) (b d : Int), vs = [.ref p, .int d] ∧ RuleAt C H p g t o gs (.times b) ∧ 0 < d ∧ ∀ k : Nat, (0 < k → 2 * lastG gs * b ^ k ≤ d) → Q (.int (k : Int)) H
theorem scSs : FnScope ["self", "way", "bits"] ["self", "way"] (defScope s_Rule_surely_short) := ⟨rfl, rfl, rfl, by decide +kernel, rfl, by decide +kernel, by decide +kernel⟩
theorem ok_ss {f C : Addr} {fd : FuncData} (F : Fun K "_surely_short" "Rule._surely_short" s_Rule_surely_short f fd) (T : Txt K mg C) : FnOk P w K mg base CX0 1 f fd ["self", "way"] (spSs C) := by
  refine F.ok scSs (fun vs H Q E h => ?_) (fun cdv A outer s H vs Q E hr h => ?_)
  · obtain ⟨p, g, t, o, gs, b, d, rfl, _⟩ := h
    rfl
  · obtain ⟨p, g, t, o, gs, b, d, rfl, R, hd0, k⟩ := h
    have hl := R.okT.1
    have hb0 := R.okT.2.1
    have hb1 := R.okT.2.2
    have hg := gap_bd R.okG (k := gs.length - 1) (by omega)
    have hg : 1 ≤ lastG gs ∧ lastG gs ≤ 1000000000000 := hg
    refine ⟨_, (pss_cons (ps_set (i := 2) scSs.nd rfl (Or.inl rfl) (pe_op op_sub (pe_op op_sub (pe_bits (pv 1)) (pe_bits (pe_ix ix_list (pe_fld (pv 0) rfl) (pe_un un_neg pe_int) (fun _ _ => rfl)))) pe_int)) (pss_one (ps_ret (pe_callB (call_max2 rfl) (by rfl) T.max (by decide +kernel) (pa_cons pe_int (pa_cons (pe_op op_fdiv (pv 2) (pe_bits (pe_op op_sub (pe_ix ix_tup (pe_fld (pv 0) rfl) pe_int (fun _ _ => rfl)) pe_int))) pa_nil)))))), ?_⟩
    refine ⟨_, rfl, d, rfl, ?_⟩
    refine rdLast T R rfl hl ⟨_, rfl, _, _, rfl, rfl, _, _, rfl, rfl, ?_⟩
    refine ⟨_, rfl, ?_⟩
    refine rdB T R rfl ⟨_, _, rfl, rfl, _, rfl, ?_⟩
    obtain ⟨c, hc⟩ := Int.eq_ofNat_of_zero_le (show 0 ≤ b - 1 by omega)
    obtain ⟨j, ej, hj1, _⟩ := bits_nat (n := c) (by omega)
    have hj : 2 ^ j < 2 ^ 10 := by omega
    have hj2 := (Nat.pow_lt_pow_iff_right (a := 2) (by decide)).mp hj
    have hcb : ((Builtin.Int.intBits (b - 1) : Nat) : Int) = ((j + 1 : Nat) : Int) := by rw [hc, ej]
    refine ⟨_, _, rfl, rfl, ⟨by omega, by omega⟩, _, _, rfl, ?_⟩
    split
    · rename_i hp
      obtain ⟨n, hn⟩ := Int.eq_ofNat_of_zero_le (Int.le_of_lt hp)
      rw [hn]
      exact k n fun _ => short_ok hg.1 hb0 hd0 (by rw [← hn]; exact Int.le_refl _)
    · exact k 0 fun h => absurd h (Nat.lt_irrefl _)
/-! ### _first_growing -/
def spFg (C : Addr) : Sp := fun vs H Q _ => ∃ (p g t o : Addr) (gs : List Int) (b d : Int), vs = [.ref p, .int d] ∧ RuleAt C H p g t o gs (.times b) ∧ pre gs gs.length < d ∧ d ≤ off gs (.times b) 1000 ∧ ∀ r H', Same H H' → FF gs (.times b) d r → Q r H'
theorem scFg : FnScope ["self", "distance", "attempt", "offset", "gap"] ["self", "distance"] (defScope s_Rule_first_growing) := ⟨rfl, rfl, rfl, by decide +kernel, rfl, by decide +kernel, by decide +kernel⟩
theorem rdTb {tr : TE} {C p g t o : Addr} {gs : List Int} {H : Hp} {σ : L2.St} {i : Nat} {b : Int} {sp : Sp} {dvs : List V} {E : XK} {Q : VK} (T : Txt K mg C) (R : RuleAt C H p g t o gs (.times b)) (hi : σ[i]? = some (some (.ref p))) (q : tr σ H fun y H2 => sp ([.int b, y] ++ dvs) H2 Q E) :
    tCall sp dvs E (tCons (tOp (rIxT K) (tFld K (tVar i) "_tail") (tC (.int 1))) (tCons tr tNil)) σ H Q := by
  dsimp only [tCall, tCons]
  exact rdB T R hi q
theorem ok_fg {f C fS fO fW : Addr} {fd fdS fdO fdW : FuncData} (F : Fun K "_first_growing" "Rule._first_growing" s_Rule_first_growing f fd) (T : Txt K mg C) (FS : Fun K "_surely_short" "Rule._surely_short" s_Rule_surely_short fS fdS) (bS : Binds K fdS ["self", "way"] []) (mS : Meth K C "_surely_short" fS)
    (GO : FnOk P w K mg base CX0 3 fO fdO ["self", "attempt"] (spOff C)) (bO : Binds K fdO ["self", "attempt"] []) (mO : Meth K C "_offset_of" fO) (FW : Fun K "_power" "_power" s_power fW fdW) (bW : Binds K fdW ["base", "exponent"] []) (mW : mg "_power" = some (.ref fW)) : FnOk P w K mg base CX0 4 f fd ["self", "distance"] (spFg C) := by
  have GS : FnOk P w K mg base CX0 1 fS fdS ["self", "way"] (spSs C) := ok_ss FS T
  have GW : FnOk P w K mg base CX0 1 fW fdW ["base", "exponent"] spPower := ok_power FW
  refine F.ok scFg (fun vs H Q E h => ?_) (fun cdv A outer s H vs Q E hr h => ?_)
  · obtain ⟨p, g, t, o, gs, b, d, rfl, _⟩ := h
    rfl
  · obtain ⟨p, g, t, o, gs, b, d, rfl, R, hd0, hd1, k⟩ := h
    have hr1 := hr.mono (show 1 ≤ 3 by decide)
    have hl := R.okT.1
    have hb0 := R.okT.2.1
    have hb1 := R.okT.2.2
    have hlen : gs.length ≤ 20 := R.okG.1
    refine ⟨_, (pss_cons (ps_set (i := 2) scFg.nd rfl (Or.inl rfl) (pe_op op_add (pe_callB call_len_seq (by rfl) T.len (by decide +kernel) (pa_cons (pe_fld (pv 0) rfl) pa_nil)) (pe_meth (pv 0) T.cl mS GS hr1 bS .nil pass0 (pa_cons (pe_op op_sub (pv 1) (pe_ix ix_list (pe_fld (pv 0) rfl) (pe_un un_neg pe_int) (fun _ _ => rfl))) pa_nil)))) (pss_cons (ps_set (i := 3) scFg.nd rfl (Or.inl rfl) (pe_meth (pv 0) T.cl mO GO hr bO .nil pass0 (pa_cons (pv 2) pa_nil))) (pss_cons (ps_set (i := 4) scFg.nd rfl (Or.inl rfl) (pe_op op_mulW (pe_ix ix_list (pe_fld (pv 0) rfl) (pe_un un_neg pe_int) (fun _ _ => rfl)) (pe_call GW hr1 rfl mW FW.kp bW .nil pass0 (pa_cons (pe_ix ix_tup (pe_fld (pv 0) rfl) pe_int (fun _ _ => rfl)) (pa_cons (pe_op op_sub (pv 2) (pe_callB call_len_seq (by rfl) T.len (by decide +kernel) (pa_cons (pe_fld (pv 0) rfl) pa_nil))) pa_nil))))) (pss_cons (ps_while PassesOwn.never (pt_cmpR op_lt (pv 3) (pv 1) (nomark _)) (pss_cons (ps_set (i := 4) scFg.nd rfl (Or.inl rfl) (pe_op op_mul (pv 4) (pe_ix ix_tup (pe_fld (pv 0) rfl) pe_int (fun _ _ => rfl)))) (pss_cons (ps_set (i := 3) scFg.nd rfl (Or.inl rfl) (pe_op op_add (pv 3) (pv 4))) (pss_one (ps_set (i := 2) scFg.nd rfl (Or.inl rfl) (pe_op op_add (pv 2) pe_int)))))) (pss_one (ps_ret (pv 2))))))), ?_⟩
    obtain ⟨dx, hob⟩ := R.ob
    refine rdG T R rfl ⟨g, _, rfl, .inl (SqL.of R.hg), ?_⟩
    rw [List.length_map]
    refine ⟨_, rfl, p, dx, _, rfl, hob, flds_no _ _ _ (by decide +kernel) (by decide +kernel) (by decide +kernel), _, rfl, ?_⟩
    refine rdLastO T R rfl ⟨_, _, rfl, rfl, p, g, t, o, gs, b, _, rfl, R, by omega, fun k0 hk0 => ?_⟩
    refine ⟨_, _, rfl, rfl, ?_⟩
    have ok0 : gs.length + k0 ≤ 1000 ∧ (0 < k0 → off gs (.times b) (gs.length + k0) < d) := by
      by_cases hz : 0 < k0
      · have h1 := hk0 hz
        have h2 := geo_short hb0 k0
        have hg := gap_bd R.okG (k := gs.length - 1) (by omega)
        have hg : 1 ≤ lastG gs ∧ lastG gs ≤ 1000000000000 := hg
        have h3 : lastG gs * (b * geo b k0) < lastG gs * (2 * b ^ k0) := Int.mul_lt_mul_of_pos_left h2 (by omega)
        have h4 : lastG gs * (2 * b ^ k0) = 2 * lastG gs * b ^ k0 := by rw [Int.mul_comm 2 (lastG gs), Int.mul_assoc]
        have h5 : off gs (.times b) (gs.length + k0) < d := by
          rw [off_times hb0 (Nat.le_add_right _ _), Nat.add_sub_cancel_left, Int.mul_assoc]
          omega
        refine ⟨?_, fun _ => h5⟩
        by_cases hn : gs.length + k0 ≤ 1000
        · exact hn
        · have := off_lt R.okG R.okT (i := 1000) (j := gs.length + k0) (by omega) (fun e => nomatch e)
          omega
      · exact ⟨by omega, fun h => absurd h hz⟩
    dsimp only [gName]
    rw [← Int.natCast_add]
    refine ⟨_, rfl, p, dx, _, rfl, hob, flds_no _ _ _ (by decide +kernel) (by decide +kernel) (by decide +kernel), _, rfl, p, g, t, o, gs, .times b, gs.length + k0, rfl, R, ok0.1, fun H1 S1 => ?_⟩
    have R1 := R.mono S1
    dsimp only [tSeq, tAsg, tOp]
    refine rdLast T R1 rfl hl ?_
    refine rdTb T R1 rfl ⟨_, rfl, ?_⟩
    refine rdG T R1 rfl ⟨g, _, rfl, .inl (SqL.of R1.hg), _, _, rfl, rfl, ?_⟩
    refine ⟨b, k0, ?_, by omega, by omega, by omega, _, _, rfl, rfl, ?_, ?_⟩
    · rw [List.length_map]
      show [V.int b, V.int (((gs.length + k0 : Nat) : Int) - (gs.length : Int))] = _
      rw [show ((gs.length + k0 : Nat) : Int) - (gs.length : Int) = (k0 : Int) by omega]
    · have hg := gap_bd R.okG (k := gs.length - 1) (by omega)
      have hg : 1 ≤ lastG gs ∧ lastG gs ≤ 1000000000000 := hg
      exact wide_mul (a := 64) (b := 20481) (by omega) (pow_small (by omega) (by omega) (by omega)) (by decide) (by decide) (by decide)
    generalize hn0' : gs.length + k0 = n0 at ok0 ⊢
    have hn0 : gs.length ≤ n0 := by omega
    have ek : k0 = n0 - gs.length := by omega
    subst ek
    refine ⟨fun m σ H' => H' = H1 ∧ ∃ n : Nat, gs.length ≤ n ∧ n ≤ 1000 ∧ m = 1000 - n ∧ σ = [some (.ref p), some (.int d), some (.int (n : Int)), some (.int (off gs (.times b) n)), some (.int (lastG gs * b ^ (n - gs.length)))] ∧ (n0 < n → off gs (.times b) (n - 1) < d) ∧ n0 ≤ n, ⟨1000 - n0, rfl, n0, hn0, ok0.1, rfl, rfl, fun h => absurd h (Nat.lt_irrefl _), Nat.le_refl _⟩, ?_⟩
    rintro m σ H' ⟨rfl, n, hn0, hn1, rfl, rfl, hall, hnn⟩
    refine ⟨_, rfl, _, rfl, _, _, rfl, rfl, _, rfl, ?_⟩
    by_cases hlt : off gs (.times b) n < d
    · refine iteTb (decide_eq_true hlt) ?_
      have hne : n ≠ 1000 := fun e => by subst e; omega
      have eg : lastG gs * b ^ (n - gs.length) * b = lastG gs * b ^ (n + 1 - gs.length) := by
        rw [show n + 1 - gs.length = (n - gs.length) + 1 by omega, Int.pow_succ, Int.mul_assoc]
      have eo : off gs (.times b) n + lastG gs * b ^ (n + 1 - gs.length) = off gs (.times b) (n + 1) := by
        rw [off_succ R.okT (n := n) (fun e => nomatch e), gap_times hn0, show n + 1 - gs.length = (n - gs.length) + 1 by omega]
      refine ⟨fun σ' H2 => H2 = H' ∧ σ' = [some (.ref p), some (.int d), some (.int ((n : Int) + 1)), some (.int (off gs (.times b) (n + 1))), some (.int (lastG gs * b ^ (n + 1 - gs.length)))], ?_, ?_⟩
      · rintro σ' H2 ⟨rfl, rfl⟩
        exact ⟨1000 - (n + 1), by omega, rfl, n + 1, by omega, by omega, rfl, rfl, fun _ => hlt, by omega⟩
      · refine ⟨_, rfl, ?_⟩
        refine rdB T R1 rfl ⟨_, _, rfl, rfl, .inr ⟨by omega, by omega⟩, ?_⟩
        refine ⟨_, rfl, _, rfl, _, _, rfl, rfl, _, rfl, _, _, rfl, rfl, rfl, ?_⟩
        show [some (V.ref p), some (V.int d), some (V.int ((n : Int) + 1)), some (V.int (off gs (.times b) n + lastG gs * b ^ (n - gs.length) * b)), some (V.int (lastG gs * b ^ (n - gs.length) * b))] = _
        rw [eg, eo]
    · refine iteFb (decide_eq_false hlt) ?_
      have hne : gs.length ≠ n := fun e => by
        subst e
        rw [off_low (Nat.le_refl gs.length)] at hlt
        exact hlt hd0
      refine ⟨_, rfl, k _ _ S1 (.inr ⟨n, rfl, hn1, by omega, fun _ => ?_⟩)⟩
      by_cases h2 : n0 < n
      · exact hall h2
      · have e3 : n = n0 := by omega
        subst e3
        exact absurd (ok0.2 (by omega)) hlt
theorem rdOc {C p g t o : Addr} {gs : List Int} {tl : Tl} {H : Hp} {σ : L2.St} {i : Nat} {sp : Sp} {dvs : List V} {E : XK} {tr : TA} {Q : VK} (T : Txt K mg C) (R : RuleAt C H p g t o gs tl) (hi : σ[i]? = some (some (.ref p))) (q : tr σ H fun xs H2 => sp ((.ref o :: xs) ++ dvs) H2 Q E) :
    tCall sp dvs E (tCons (tFld K (tVar i) "_offsets") tr) σ H Q := by
  dsimp only [tCall, tCons]
  exact rdO T R hi q
/-! ### _first_repeated -/
def spFrp (C : Addr) : Sp := fun vs H Q _ => ∃ (p g t o : Addr) (gs : List Int) (m : Nat) (d : Int), vs = [.ref p, .int d] ∧ RuleAt C H p g t o gs (.rep m) ∧ pre gs gs.length < d ∧ d < 2 ^ 200 ∧ ∀ r H', Same H H' → FF gs (.rep m) d r → Q r H'
theorem scFrp : FnScope ["self", "distance", "first", "periods", "rest", "within"] ["self", "distance"] (defScope s_Rule_first_repeated) := ⟨rfl, rfl, rfl, by decide +kernel, rfl, by decide +kernel, by decide +kernel⟩
theorem offsD {gs : List Int} {j : Nat} (h : j ≤ gs.length) : (offs gs).getD j 0 = pre gs j := by
  rw [List.getD_eq_getElem?_getD, offs_get gs h]
  rfl
theorem bits_lt {i : Int} (h0 : 0 ≤ i) (h1 : i < 2 ^ 200) : Builtin.Int.intBits i ≤ 200 := by
  unfold Builtin.Int.intBits
  split
  · omega
  · have := PySem.Flt.log2_lt_of (n := i.natAbs) (k := 200) (by decide) (by omega)
    omega
theorem ok_frp {f C fR fP fL : Addr} {fd fdR fdP fdL : FuncData} (F : Fun K "_first_repeated" "Rule._first_repeated" s_Rule_first_repeated f fd) (T : Txt K mg C) (FR : Fun K "first_repeating" "Rule.first_repeating" s_Rule_first_repeating fR fdR) (bR : Binds K fdR ["self"] []) (mR : Meth K C "first_repeating" fR)
    (FP : Fun K "period" "Rule.period" s_Rule_period fP fdP) (bP : Binds K fdP ["self"] []) (mP : Meth K C "period" fP) (FL : Fun K "_first_at_least" "_first_at_least" s_first_at_least fL fdL) (bL : Binds K fdL ["offsets", "distance"] []) (mL : mg "_first_at_least" = some (.ref fL)) :
    FnOk P w K mg base CX0 3 f fd ["self", "distance"] (spFrp C) := by
  have GR : FnOk P w K mg base CX0 1 fR fdR ["self"] (spFR C) := ok_fr FR T
  have GP : FnOk P w K mg base CX0 2 fP fdP ["self"] (spPer C) := ok_per FP T FR bR mR
  have GL : FnOk P w K mg base CX0 1 fL fdL ["offsets", "distance"] spFal := ok_fal FL
  refine F.ok scFrp (fun vs H Q E h => ?_) (fun cdv A outer s H vs Q E hr h => ?_)
  · obtain ⟨p, g, t, o, gs, m, d, rfl, _⟩ := h
    rfl
  · obtain ⟨p, g, t, o, gs, m, d, rfl, R, hd0, hd1, k⟩ := h
    have hr1 := hr.mono (show 1 ≤ 2 by decide)
    have hm0 : 1 ≤ m := R.okT.1
    have hm1 : m ≤ gs.length := R.okT.2
    have hp := per_bd R.okG hm0 hm1
    have hpre := pre_le R.okG (gs.length - m) (by omega)
    have eper : per gs m = pre gs gs.length - pre gs (gs.length - m) := rfl
    refine ⟨_, (pss_cons (ps_set (i := 2) scFrp.nd rfl (Or.inl rfl) (pe_meth0 (pv 0) T.cl mR GR hr1 bR .nil pass0)) (pss_cons (ps_asg (pe_callB call_divmodW (by rfl) T.divmod (by decide +kernel) (pa_cons (pe_op op_sub (pv 1) (pe_ix ix_list (pe_fld (pv 0) rfl) (pv 2) (fun _ _ => rfl))) (pa_cons (pe_meth0 (pv 0) T.cl mP GP hr bP .nil pass0) pa_nil))) (pg_tup rfl (pgs_cons (pg_name (i := 3) scFrp.nd rfl (Or.inl rfl)) (pgs_cons (pg_name (i := 4) scFrp.nd rfl (Or.inl rfl)) pgs_nil)))) (pss_cons (ps_set (i := 5) scFrp.nd rfl (Or.inl rfl) (pe_call GL hr1 rfl mL FL.kp bL .nil pass0 (pa_cons (pe_fld (pv 0) rfl) (pa_cons (pe_op op_add (pe_ix ix_list (pe_fld (pv 0) rfl) (pv 2) (fun _ _ => rfl)) (pv 4)) pa_nil)))) (pss_one (ps_ret (pe_op op_add (pv 5) (pe_op op_mul (pv 3) (pe_ix ix_tup (pe_fld (pv 0) rfl) pe_int (fun _ _ => rfl))))))))), ?_⟩
    obtain ⟨dx, hob⟩ := R.ob
    have nF : (flds g t o).lookup ("first_repeating" : Str) = none := flds_no _ _ _ (by decide +kernel) (by decide +kernel) (by decide +kernel)
    have nP : (flds g t o).lookup ("period" : Str) = none := flds_no _ _ _ (by decide +kernel) (by decide +kernel) (by decide +kernel)
    refine ⟨_, rfl, p, dx, _, rfl, hob, nF, p, g, t, o, gs, m, rfl, R, ?_⟩
    refine ⟨_, rfl, ?_⟩
    refine rdOx T R rfl ⟨_, rfl, o, _, _, _, rfl, rfl, SqL.of R.ho, at_map (offs_get gs (by omega)), _, _, rfl, rfl, ?_⟩
    refine ⟨_, rfl, p, dx, _, rfl, hob, nP, p, g, t, o, gs, .rep m, rfl, R, ?_⟩
    have hi0 : 0 ≤ d - pre gs (gs.length - m) := by omega
    refine ⟨_, _, rfl, divp_ok (by omega) (Nat.le_trans (bits_lt hi0 (by omega)) (by omega)), fun q hq => ?_⟩
    generalize hQ : (d - pre gs (gs.length - m)) / per gs m = qq
    generalize hRr : (d - pre gs (gs.length - m)) % per gs m = rr
    have eqr : per gs m * qq + rr = d - pre gs (gs.length - m) := by rw [← hQ, ← hRr]; exact Int.mul_ediv_add_emod _ _
    have hr0 : 0 ≤ rr := by rw [← hRr]; exact Int.emod_nonneg _ (by omega)
    have hr2 : rr < per gs m := by rw [← hRr]; exact Int.emod_lt_of_pos _ (by omega)
    have hq1 : 1 ≤ qq := by
      by_cases h : 1 ≤ qq
      · exact h
      · have : per gs m * qq ≤ per gs m * 0 := Int.mul_le_mul_of_nonneg_left (by omega) (by omega)
        omega
    obtain ⟨qn, rfl⟩ : ∃ qn : Nat, qq = (qn : Int) := ⟨qq.toNat, by omega⟩
    have S : Same H (upd H q (.tup [.int (qn : Int), .int rr])) := same_new hq
    have R2 := R.mono S
    refine ⟨q, _, rfl, SqT.of upd_same, rfl, _, _, rfl, _, _, rfl, rfl, ?_⟩
    obtain ⟨dx2, hob2⟩ := R2.ob
    refine rdOc T R2 rfl ?_
    refine rdOx T R2 rfl ⟨_, rfl, o, _, _, _, rfl, rfl, SqL.of R2.ho, at_map (offs_get gs (by omega)), _, rfl, _, _, rfl, rfl, ?_⟩
    refine ⟨o, offs gs, _, gs.length, rfl, R2.ho, by rw [offs_len]; omega, by rw [offsD (Nat.le_refl _)]; omega, fun j hj hdj hall => ?_⟩
    rw [offsD hj] at hdj
    have hj0 : gs.length - m ≤ j := by
      by_cases h : gs.length - m ≤ j
      · exact h
      · have := pre_mono R.okG j (gs.length - m - j) (by omega)
        rw [show j + (gs.length - m - j) = gs.length - m by omega] at this
        omega
    refine ⟨_, rfl, _, rfl, ?_⟩
    refine rdN T R2 rfl ⟨_, _, rfl, rfl, .inr ⟨by omega, by have := R.okG.1; omega⟩, _, _, rfl, rfl, ?_⟩
    have emul : (qn : Int) * per gs m = per gs m * (qn : Int) := Int.mul_comm _ _
    refine k _ _ S (.inr ⟨j + m * qn, ?_, True.intro, ?_, fun _ => ?_⟩)
    · rw [Int.natCast_add, Int.natCast_mul, Int.mul_comm (m : Int)]
    · rw [off_turn hm0 hm1 hj0 hj]
      omega
    · by_cases hj1 : j = gs.length - m
      · have e1 : qn = (qn - 1) + 1 := by omega
        have e2 : j + m * qn - 1 = (gs.length - 1) + m * (qn - 1) := by
          rw [e1, Nat.mul_succ]
          simp only [Nat.add_sub_cancel]
          omega
        have hall0 : d = pre gs (gs.length - m) + rr + per gs m * (qn : Int) := by omega
        rw [e2, off_turn hm0 hm1 (by omega) (by omega)]
        have hl := pre_mono R.okG (gs.length - 1) 1 (by omega)
        rw [show gs.length - 1 + 1 = gs.length by omega] at hl
        have e3 : ((qn - 1 : Nat) : Int) * per gs m + per gs m = per gs m * (qn : Int) := by
          rw [show ((qn - 1 : Nat) : Int) = (qn : Int) - 1 by omega, Int.sub_mul, Int.one_mul, emul]
          omega
        omega
      · have h1 := hall (j - 1) (by omega)
        rw [offsD (by omega)] at h1
        rw [show j + m * qn - 1 = (j - 1) + m * qn by omega, off_turn hm0 hm1 (by omega) (by omega)]
        omega
/-! ### first_from, attempt_at -/
/-- a distance that is answered -/
def HD (gs : List Int) (tl : Tl) (d : Int) : Prop := match tl with
  | .fin => True
  | .times b => d ≤ off gs (.times b) 1000
  | .rep _ => d < 2 ^ 200
def spFF (C : Addr) : Sp := fun vs H Q _ => ∃ (p g t o : Addr) (gs : List Int) (tl : Tl) (d : Int), vs = [.ref p, .int d] ∧ RuleAt C H p g t o gs tl ∧ HD gs tl d ∧ ∀ r H', Same H H' → FF gs tl d r → Q r H'
theorem scFF : FnScope ["self", "distance"] ["self", "distance"] (defScope s_Rule_first_from) := ⟨rfl, rfl, rfl, by decide +kernel, rfl, by decide +kernel, by decide +kernel⟩
theorem ok_ff {f C fi fL fG fW : Addr} {fd fdi fdL fdG fdW : FuncData} (F : Fun K "first_from" "Rule.first_from" s_Rule_first_from f fd) (T : Txt K mg C) (FI : Fun K "is_integer" "is_integer" s_is_integer fi fdi) (bI : Binds K fdi ["value"] []) (mI : mg "is_integer" = some (.ref fi))
    (FL : Fun K "_first_at_least" "_first_at_least" s_first_at_least fL fdL) (bL : Binds K fdL ["offsets", "distance"] []) (mL : mg "_first_at_least" = some (.ref fL))
    (GG : FnOk P w K mg base CX0 4 fG fdG ["self", "distance"] (spFg C)) (bG : Binds K fdG ["self", "distance"] []) (mG : Meth K C "_first_growing" fG)
    (GW : FnOk P w K mg base CX0 3 fW fdW ["self", "distance"] (spFrp C)) (bW : Binds K fdW ["self", "distance"] []) (mW : Meth K C "_first_repeated" fW) : FnOk P w K mg base CX0 5 f fd ["self", "distance"] (spFF C) := by
  have GI : FnOk P w K mg base CX0 1 fi fdi ["value"] spIsInt := ok_isInt FI T
  have GL : FnOk P w K mg base CX0 1 fL fdL ["offsets", "distance"] spFal := ok_fal FL
  refine F.ok scFF (fun vs H Q E h => ?_) (fun cdv A outer s H vs Q E hr h => ?_)
  · obtain ⟨p, g, t, o, gs, tl, d, rfl, _⟩ := h
    rfl
  · obtain ⟨p, g, t, o, gs, tl, d, rfl, R, hd, k⟩ := h
    have hr1 := hr.mono (show 1 ≤ 4 by decide)
    refine ⟨_, (pss_cons (ps_if (pt_not (pt_val (pe_call GI hr1 rfl mI FI.kp bI .nil pass0 (pa_cons (pv 1) pa_nil)))) (pss_one ps_never) pss_nil) (pss_cons (ps_if (pt_cmpR op_le (pv 1) (pe_ix ix_list (pe_fld (pv 0) rfl) (pe_un un_neg pe_int) (fun _ _ => rfl)) (nomark _)) (pss_one (ps_ret (pe_call GL hr1 rfl mL FL.kp bL .nil pass0 (pa_cons (pe_fld (pv 0) rfl) (pa_cons (pv 1) pa_nil))))) pss_nil) (pss_cons (ps_if (pt_cmpR op_eq (pe_ix ix_tup (pe_fld (pv 0) rfl) pe_int (fun _ _ => rfl)) pe_str (nomark _)) (pss_one (ps_ret pe_non)) pss_nil) (pss_cons (ps_if (pt_cmpR op_eq (pe_ix ix_tup (pe_fld (pv 0) rfl) pe_int (fun _ _ => rfl)) pe_str (nomark _)) (pss_one (ps_ret (pe_meth (pv 0) T.cl mG GG hr bG .nil pass0 (pa_cons (pv 1) pa_nil)))) pss_nil) (pss_one (ps_ret (pe_meth (pv 0) T.cl mW GW (hr.mono (by decide)) bW .nil pass0 (pa_cons (pv 1) pa_nil)))))))), ?_⟩
    obtain ⟨dx, hob⟩ := R.ob
    refine ⟨_, rfl, d, rfl, true, rfl, iteF ?_⟩
    refine ⟨_, rfl, ?_⟩
    refine rdLastO T R rfl ⟨_, _, rfl, rfl, _, rfl, ?_⟩
    by_cases hle : d ≤ pre gs gs.length
    · refine iteTb (decide_eq_true hle) ?_
      refine rdOc T R rfl ⟨_, rfl, o, offs gs, d, gs.length, rfl, R.ho, by rw [offs_len]; omega, by rw [offsD (Nat.le_refl _)]; exact hle, fun n hn hdn hall => ?_⟩
      rw [offsD hn] at hdn
      refine k _ H (Same.refl H) (.inr ⟨n, rfl, AttOk.low R.okG hn, by rw [off_low hn]; exact hdn, fun h0 => ?_⟩)
      have := hall (n - 1) (by omega)
      rw [offsD (by omega)] at this
      rw [off_low (by omega)]
      exact this
    · refine iteFb (decide_eq_false hle) ?_
      refine rdIs T R rfl ?_
      cases tl with
      | fin =>
        refine iteTb wEE ?_
        exact k _ H (Same.refl H) (.inl ⟨rfl, rfl, by omega⟩)
      | times b =>
        refine iteFb wTE ?_
        refine rdIs T R rfl ?_
        refine iteTb wTT ?_
        exact ⟨_, rfl, p, dx, _, rfl, hob, flds_no _ _ _ (by decide +kernel) (by decide +kernel) (by decide +kernel), _, rfl, p, g, t, o, gs, b, d, rfl, R, by omega, hd, k⟩
      | rep m =>
        refine iteFb wRE ?_
        refine rdIs T R rfl ?_
        refine iteFb wRT ?_
        exact ⟨_, rfl, p, dx, _, rfl, hob, flds_no _ _ _ (by decide +kernel) (by decide +kernel) (by decide +kernel), _, rfl, p, g, t, o, gs, m, d, rfl, R, by omega, hd, k⟩
end
end RS
namespace RS
open PySem L2
section
variable {P : Program} {w : World} {K : PySem.W.Frag} {mg : Str → Option Value} {base : Heap}
/-! ### the least difference from a distance on -/
def spCkD : Sp := fun vs H Q _ => ∃ i : Int, vs = [.int i] ∧ 1 ≤ i ∧ Q .non H
theorem scCkD : FnScope ["distance"] ["distance"] (defScope s_check_distance) := ⟨rfl, rfl, rfl, by decide +kernel, rfl, by decide +kernel, by decide +kernel⟩
theorem ok_ckD {f C fI : Addr} {fd fdI : FuncData} (F : Fun K "_check_distance" "_check_distance" s_check_distance f fd) (T : Txt K mg C) (GI : FnOk P w K mg base CX0 1 fI fdI ["value"] spIsInt) (bI : Binds K fdI ["value"] []) (mI : mg "is_integer" = some (.ref fI)) (kI : PySem.W.keepIn K (.ref fI) = true) : FnOk P w K mg base CX0 2 f fd ["distance"] spCkD := by
  refine F.ok scCkD (fun vs H Q E h => ?_) (fun cdv A outer s H vs Q E hr h => ?_)
  · obtain ⟨i, rfl, _⟩ := h
    rfl
  · obtain ⟨i, rfl, h1, k⟩ := h
    refine ⟨_, (pss_one (ps_if (PW.pt (pw_or (pt_not (pt_val (pe_call GI hr rfl mI kI bI .nil pass0 (pa_cons (pv 0) pa_nil)))) (pw_or1 (pt_cmpR op_lt (pv 0) pe_int (nomark _))))) (pss_one ps_never) pss_nil)), ?_⟩
    exact ⟨_, rfl, i, rfl, true, rfl, iteF ⟨_, rfl, _, _, rfl, rfl, _, rfl, iteFb (decide_eq_false (by omega)) k⟩⟩
/-- the attempt that reaches a distance from a later client's attempt -/
structure Reach (gs : List Int) (m : Nat) (d : Int) (l e : Nat) : Prop where
  le : d + off gs (.rep m) l ≤ off gs (.rep m) e
  lt : 0 < e → off gs (.rep m) (e - 1) < d + off gs (.rep m) l
def spRR (C : Addr) : Sp := fun vs H Q _ => ∃ (p g t o : Addr) (gs : List Int) (m : Nat) (d : Int) (l : Nat), vs = [.ref p, .int d, .int (l : Int)] ∧ RuleAt C H p g t o gs (.rep m) ∧ 1 ≤ d ∧ d < 2 ^ 150 ∧ l < gs.length ∧
  ∀ q r e H', H q = none → Same H H' → Reach gs m d l e → H' q = some (.tup [.int (off gs (.rep m) e - off gs (.rep m) l), .ref r]) → H' r = some (.tup [.int (e : Int), .int (l : Int)]) → Q (.ref q) H'
theorem scRR : FnScope ["rule", "distance", "later", "earlier"] ["rule", "distance", "later"] (defScope s_reaching_repeated) := ⟨rfl, rfl, rfl, by decide +kernel, rfl, by decide +kernel, by decide +kernel⟩
theorem ok_rr {f C fF fO : Addr} {fd fdF fdO : FuncData} (F : Fun K "_reaching_repeated" "_reaching_repeated" s_reaching_repeated f fd) (T : Txt K mg C) (GF : FnOk P w K mg base CX0 5 fF fdF ["self", "distance"] (spFF C)) (bF : Binds K fdF ["self", "distance"] []) (mF : Meth K C "first_from" fF)
    (GO : FnOk P w K mg base CX0 4 fO fdO ["self", "attempt"] (spOff C)) (bO : Binds K fdO ["self", "attempt"] []) (mO : Meth K C "offset" fO) : FnOk P w K mg base CX0 6 f fd ["rule", "distance", "later"] (spRR C) := by
  refine F.ok scRR (fun vs H Q E h => ?_) (fun cdv A outer s H vs Q E hr h => ?_)
  · obtain ⟨p, g, t, o, gs, m, d, l, rfl, _⟩ := h
    rfl
  · obtain ⟨p, g, t, o, gs, m, d, l, rfl, R, h1, h2, hlt, k⟩ := h
    have hr4 := hr.mono (show 4 ≤ 5 by decide)
    refine ⟨_, (pss_cons (ps_set (i := 3) scRR.nd rfl (Or.inl rfl) (pe_meth (pv 0) T.cl mF GF hr bF .nil pass0 (pa_cons (pe_op op_add (pe_meth (pv 0) T.cl mO GO hr4 bO .nil pass0 (pa_cons (pv 2) pa_nil)) (pv 1)) pa_nil))) (pss_one (ps_ret (pe_tup (pa_cons (pe_op op_sub (pe_meth (pv 0) T.cl mO GO hr4 bO .nil pass0 (pa_cons (pv 3) pa_nil)) (pe_meth (pv 0) T.cl mO GO hr4 bO .nil pass0 (pa_cons (pv 2) pa_nil))) (pa_cons (pe_tup (pa_cons (pv 3) (pa_cons (pv 2) pa_nil))) pa_nil)))))), ?_⟩
    obtain ⟨dx, hob⟩ := R.ob
    refine ⟨_, rfl, p, dx, _, rfl, hob, flds_no _ _ _ (by decide +kernel) (by decide +kernel) (by decide +kernel), _, rfl, p, dx, _, rfl, hob, flds_no _ _ _ (by decide +kernel) (by decide +kernel) (by decide +kernel), _, rfl, p, g, t, o, gs, .rep m, l, rfl, R, True.intro, fun H1 S1 => ?_⟩
    refine ⟨_, rfl, _, _, rfl, rfl, p, g, t, o, gs, .rep m, _, rfl, R.mono S1, ?_, fun r H2 S2 hF => ?_⟩
    · show off gs (.rep m) l + d < 2 ^ 200
      rw [off_low (by omega)]
      have h3 := (pre_le R.okG l (by omega)).2
      have h4 := R.okG.1
      have h5 : (2 : Int) ^ 150 + 1000000000000 * 20 < 2 ^ 200 := by decide
      omega
    rcases hF with ⟨_, h, _⟩ | ⟨e, rfl, _, he1, he2⟩
    · cases h
    have S12 := S1.trans S2
    have R2 := R.mono S12
    obtain ⟨dx2, hob2⟩ := R2.ob
    refine ⟨_, rfl, p, dx2, _, rfl, hob2, flds_no _ _ _ (by decide +kernel) (by decide +kernel) (by decide +kernel), _, rfl, p, g, t, o, gs, .rep m, e, rfl, R2, True.intro, fun H3 S3 => ?_⟩
    have R3 := R2.mono S3
    obtain ⟨dx3, hob3⟩ := R3.ob
    refine ⟨_, rfl, p, dx3, _, rfl, hob3, flds_no _ _ _ (by decide +kernel) (by decide +kernel) (by decide +kernel), _, rfl, p, g, t, o, gs, .rep m, l, rfl, R3, True.intro, fun H4 S4 => ?_⟩
    refine ⟨_, _, rfl, rfl, _, rfl, _, rfl, by show 2 ≤ sizeLine; decide, fun r1 hr1 => ⟨by show 2 ≤ sizeLine; decide, fun q hq => ?_⟩⟩
    have S := (S12.trans S3).trans S4
    have e1 := upd_same (H := H4) (a := r1) (o := .tup [.int (e : Int), .int (l : Int)])
    have T1 := same_new (o := .tup [.int (e : Int), .int (l : Int)]) hr1
    have T2 := same_new (o := .tup [.int (off gs (.rep m) e - off gs (.rep m) l), .ref r1]) hq
    exact k q r1 e _ (S.free (T1.free hq)) ((S.trans T1).trans T2) ⟨by omega, fun h => by have := he2 h; omega⟩ upd_same (T2 _ _ e1)
end
end RS
namespace RS
open PySem L2
section
variable {P : Program} {w : World} {K : PySem.W.Frag} {mg : Str → Option Value} {base : Heap}
/-! ### all least differences from a distance on, of gaps that repeat -/
/-- the l-th of the tuples -/
def RTup (H : Hp) (gs : List Int) (m : Nat) (d : Int) (l : Nat) (x : V) : Prop := ∃ (t r : Addr) (e : Nat), x = .ref t ∧ Reach gs m d l e ∧ H t = some (.tup [.int (off gs (.rep m) e - off gs (.rep m) l), .ref r]) ∧ H r = some (.tup [.int (e : Int), .int (l : Int)])
theorem RTup.mono {H H' : Hp} {gs : List Int} {m : Nat} {d : Int} {l : Nat} {x : V} (h : RTup H gs m d l x) (S : Same H H') : RTup H' gs m d l x :=
  let ⟨t, r, e, a, b, c, f⟩ := h
  ⟨t, r, e, a, b, S _ _ c, S _ _ f⟩
theorem RTup.off {H : Hp} {gs : List Int} {m : Nat} {d : Int} {l : Nat} {x : V} {D : Addr} {xs : List V} {o : HO} (h : RTup H gs m d l x) (hD : H D = some (.lst xs)) : RTup (upd H D o) gs m d l x := by
  obtain ⟨t, r, e, a, b, c, f⟩ := h
  refine ⟨t, r, e, a, b, ?_, ?_⟩
  · rw [upd_ne fun z => by rw [z, hD] at c; cases c]
    exact c
  · rw [upd_ne fun z => by rw [z, hD] at f; cases f]
    exact f
def spRch (C : Addr) : Sp := fun vs H Q _ => ∃ (p g t o : Addr) (gs : List Int) (m : Nat) (d : Int), vs = [.ref p, .int d] ∧ RuleAt C H p g t o gs (.rep m) ∧ 1 ≤ d ∧ d < 2 ^ 150 ∧
  ∀ q rs H', H q = none → Same H H' → H' q = some (.lst rs) → rs.length = gs.length → (∀ l x, rs[l]? = some x → RTup H' gs m d l x) → Q (.ref q) H'
def rcN : List Str := ["rule", "distance", "offsets", "found", "earlier", "offset", "later"]
theorem scRch : FnScope ["rule", "distance", "offsets", "found", "earlier", "later", "offset"] ["rule", "distance"] (defScope s_reaching) := ⟨rfl, rfl, rfl, by decide +kernel, rfl, by decide +kernel, by decide +kernel⟩
theorem ok_rch {f C fF fG fR : Addr} {fd fdF fdG fdR : FuncData} (F : Fun K "_reaching" "_reaching" s_reaching f fd) (T : Txt K mg C) (GF : FnOk P w K mg base CX0 1 fF fdF ["self"] (spFR C)) (bF : Binds K fdF ["self"] []) (mF : Meth K C "first_repeating" fF)
    (GG : FnOk P w K mg base CX0 1 fG fdG ["self"] (spGaps C)) (bG : Binds K fdG ["self"] []) (mG : Meth K C "gaps" fG)
    (GR : FnOk P w K mg base CX0 6 fR fdR ["rule", "distance", "later"] (spRR C)) (bR : Binds K fdR ["rule", "distance", "later"] []) (mR : mg "_reaching_repeated" = some (.ref fR)) (kR : PySem.W.keepIn K (.ref fR) = true) : FnOk P w K mg base CX0 7 f fd ["rule", "distance"] (spRch C) := by
  refine F.ok scRch (fun vs H Q E h => ?_) (fun cdv A outer s H vs Q E hr h => ?_)
  · obtain ⟨p, g, t, o, gs, m, d, rfl, _⟩ := h
    rfl
  · obtain ⟨p, g, t, o, gs, m, d, rfl, R, h1, h2, k⟩ := h
    have hr1 := hr.mono (show 1 ≤ 6 by decide)
    refine ⟨_, (pss_cons (ps_if (pt_cmpR op_notN (pe_meth0 (pv 0) T.cl mF GF hr1 bF .nil pass0) pe_non (nomark _)) (pss_one (ps_ret (pe_lc (own := [("later", 5)]) (g := gName 5) (tt := tYes) rfl scRch.nd (pi_range1 rfl T.range (pa_cons (pe_callB call_len_seq (by rfl) T.len (by decide +kernel) (pa_cons (pe_meth0 (pv 0) T.cl mG GG hr1 bG .nil pass0) pa_nil)) pa_nil)) (blkOk_by (own := [("later", 5)]) (N := (["rule", "distance", "offsets", "found", "earlier", "later", "offset"])) (sc := (defScope s_reaching)) (by decide +kernel)) (fun _ _ _ _ _ => (pg_name (i := 5) scRch.nd rfl (Or.inl rfl))) (fun _ _ _ _ _ => pts_nil) (fun _ _ _ _ _ => (pe_call GR hr rfl mR kR bR .nil pass0 (pa_cons (pv 0) (pa_cons (pv 1) (pa_cons (pv 5) pa_nil)))))))) pss_nil) (pss_cons ps_never (pss_cons ps_never (pss_cons ps_never (pss_cons ps_never (pss_one ps_never)))))), ?_⟩
    obtain ⟨dx, hob⟩ := R.ob
    refine ⟨_, rfl, p, dx, _, rfl, hob, flds_no _ _ _ (by decide +kernel) (by decide +kernel) (by decide +kernel), p, g, t, o, gs, m, rfl, R, rfl, _, rfl, iteTb (by rw [decide_eq_false fun e => nomatch e]; rfl) ?_⟩
    have hg20 := R.okG.1
    refine ⟨_, rfl, p, dx, _, rfl, hob, flds_no _ _ _ (by decide +kernel) (by decide +kernel) (by decide +kernel), p, g, t, o, gs, .rep m, rfl, R, fun l0 hl0 => ?_⟩
    have S1 := same_new (o := .lst (gs.map V.int)) hl0
    refine ⟨l0, _, rfl, .inl (SqL.of upd_same), _, rfl, ?_⟩
    rw [List.length_map]
    generalize (upd H l0 (.lst (gs.map V.int))) = H1 at S1 ⊢
    have R1 := R.mono S1
    refine ⟨by omega, by omega, fun D hD => ?_⟩
    refine lc_range (lo := 0) (n := ((gs.length : Int)).toNat) (fun i H' => Same H1 H' ∧ ∃ rs, H' D = some (.lst rs) ∧ rs.length = i ∧ ∀ l x, rs[l]? = some x → RTup H' gs m d l x) ⟨same_new hD, [], upd_same, rfl, fun l x h => by simp at h⟩ (fun i H2 hi z => ?_) (fun H2 z => ?_)
    · obtain ⟨S2, rs, hrs, hlen, hall⟩ := z
      refine ⟨rfl, yes_t (iteT ?_)⟩
      refine ⟨_, rfl, _, rfl, _, rfl, p, g, t, o, gs, m, d, i, by rw [Int.zero_add]; rfl, R1.mono S2, h1, h2, by omega, fun q r e H3 hq S3 hre hq3 hr3 => ?_⟩
      refine ⟨rs, S3 _ _ hrs, small1000 (by omega), same_app hD (S2.trans S3), rs ++ [.ref q], upd_same, by rw [List.length_append, hlen]; rfl, fun l x hx => ?_⟩
      refine RTup.off (xs := rs) ?_ (S3 _ _ hrs)
      by_cases hl : l < rs.length
      · rw [List.getElem?_append_left hl] at hx
        exact (hall l x hx).mono S3
      · rw [List.getElem?_append_right (by omega)] at hx
        have el : l = rs.length := by
          have := (List.getElem?_eq_some_iff.mp hx).1
          simp at this
          omega
        subst el
        rw [Nat.sub_self] at hx
        have ex : x = .ref q := (Option.some.inj hx).symm
        subst ex
        subst hlen
        exact ⟨q, r, e, rfl, hre, hq3, hr3⟩
    obtain ⟨S2, rs, hrs, hlen, hall⟩ := z
    exact k D rs H2 (S1.free hD) (S1.trans S2) hrs (by omega) hall
end
end RS
namespace RS
open PySem L2
section
variable {P : Program} {w : World} {K : PySem.W.Frag} {mg : Str → Option Value} {base : Heap}
/-! ### shared_attempts, of gaps that repeat: whether there are tuples that repeat -/
def Hit (gs : List Int) (m : Nat) (d : Int) (l e : Nat) : Prop := Reach gs m d l e ∧ off gs (.rep m) e - off gs (.rep m) l = d
/-- the pairs found among the first i -/
structure Found (H : Hp) (gs : List Int) (m : Nat) (d : Int) (i : Nat) (ps : List V) : Prop where
  all : ∀ x ∈ ps, ∃ (r : Addr) (e l : Nat), x = .ref r ∧ H r = some (.tup [.int (e : Int), .int (l : Int)]) ∧ Hit gs m d l e ∧ l < i
  has : ∀ l, l < i → ∃ e, Reach gs m d l e ∧ (off gs (.rep m) e - off gs (.rep m) l = d → ∃ r, V.ref r ∈ ps ∧ H r = some (.tup [.int (e : Int), .int (l : Int)]))
def spSh (C : Addr) : Sp := fun vs H Q _ => ∃ (p g t o : Addr) (gs : List Int) (m : Nat) (d : Int), vs = [.ref p, .int d] ∧ RuleAt C H p g t o gs (.rep m) ∧ 1 ≤ d ∧ d < 2 ^ 150 ∧
  ∀ q w1 w2 xs H', Same H H' → H' q = some (.tup [.ref w1, .ref w2]) → H' w2 = some (.lst xs) → xs.length ≤ 20 → (∀ x ∈ xs, ∃ l e, gs.length - m ≤ l ∧ l < gs.length ∧ Hit gs m d l e) → (xs = [] → ∀ l, gs.length - m ≤ l → l < gs.length → ∃ e, Reach gs m d l e ∧ off gs (.rep m) e - off gs (.rep m) l ≠ d) → Q (.ref q) H'
def shN : List Str := ["rule", "distance", "pairs", "first", "difference", "pair"]
theorem scSh : FnScope shN ["rule", "distance"] (defScope s_shared_attempts) := ⟨rfl, rfl, rfl, by decide +kernel, rfl, by decide +kernel, by decide +kernel⟩
theorem ok_sh {f C fC fR fF : Addr} {fd fdC fdR fdF : FuncData} (F : Fun K "shared_attempts" "shared_attempts" s_shared_attempts f fd) (T : Txt K mg C) (GC : FnOk P w K mg base CX0 2 fC fdC ["distance"] spCkD) (bC : Binds K fdC ["distance"] []) (mC : mg "_check_distance" = some (.ref fC)) (kC : PySem.W.keepIn K (.ref fC) = true)
    (GR : FnOk P w K mg base CX0 7 fR fdR ["rule", "distance"] (spRch C)) (bR : Binds K fdR ["rule", "distance"] []) (mR : mg "_reaching" = some (.ref fR)) (kR : PySem.W.keepIn K (.ref fR) = true)
    (GF : FnOk P w K mg base CX0 1 fF fdF ["self"] (spFR C)) (bF : Binds K fdF ["self"] []) (mF : Meth K C "first_repeating" fF) : FnOk P w K mg base CX0 8 f fd ["rule", "distance"] (spSh C) := by
  refine F.ok scSh (fun vs H Q E h => ?_) (fun cdv A outer s H vs Q E hr h => ?_)
  · obtain ⟨p, g, t, o, gs, m, d, rfl, _⟩ := h
    rfl
  · obtain ⟨p, g, t, o, gs, m, d, rfl, R, h1, h2, k⟩ := h
    have hr1 := hr.mono (show 1 ≤ 7 by decide)
    have hr2 := hr.mono (show 2 ≤ 7 by decide)
    refine ⟨_, (pss_cons (ps_expr (pe_call GC hr2 rfl mC kC bC .nil pass0 (pa_cons (pv 1) pa_nil))) (pss_cons (ps_set (i := 2) scSh.nd rfl (Or.inl rfl) (pe_callB cr_sortedP (by rfl) T.sorted (by decide +kernel) (pa_cons (pe_lc (own := [("difference", 4), ("pair", 5)]) (g := gTup K 2 (gCons (gName 4) (gCons (gName 5) gNil))) rfl scSh.nd (pi_list (pe_call GR hr rfl mR kR bR .nil pass0 (pa_cons (pv 0) (pa_cons (pv 1) pa_nil)))) (blkOk_by (own := [("difference", 4), ("pair", 5)]) (N := shN) (sc := defScope s_shared_attempts) (by decide +kernel))
        (fun _ _ _ _ _ => pg_tup rfl (pgs_cons (pg_name (i := 4) scSh.nd rfl (Or.inl rfl)) (pgs_cons (pg_name (i := 5) scSh.nd rfl (Or.inl rfl)) pgs_nil))) (fun _ _ _ _ _ => pts_one (pt_cmpR op_eq (pv 4) (pv 1) (nomark _))) (fun _ _ _ _ _ => pv 5)) pa_nil))) (pss_cons (ps_set (i := 3) scSh.nd rfl (Or.inr rfl) (pe_meth0 (pv 0) T.cl mF GF hr1 bF .nil pass0)) (pss_cons (ps_if (pt_cmpR op_isN (pv 3) pe_non (nomark _)) (pss_one ps_never) pss_nil) (pss_one (ps_ret (pe_tup (pa_cons (pe_lc (own := [("pair", 5)]) (g := gName 5) rfl scSh.nd (pi_list (pv 2)) (blkOk_by (own := [("pair", 5)]) (N := shN) (sc := (defScope s_shared_attempts)) (by decide +kernel)) (fun _ _ _ _ _ => (pg_name (i := 5) scSh.nd rfl (Or.inl rfl))) (fun _ _ _ _ _ => pts_one (pt_cmpR op_lt (pe_ixTK K (by rfl) (pv 5) pe_int) (pv 3) (nomark _))) (fun _ _ _ _ _ => (pv 5))) (pa_cons (pe_lc (own := [("pair", 5)]) (g := gName 5) rfl scSh.nd (pi_list (pv 2)) (blkOk_by (own := [("pair", 5)]) (N := shN) (sc := (defScope s_shared_attempts)) (by decide +kernel)) (fun _ _ _ _ _ => (pg_name (i := 5) scSh.nd rfl (Or.inl rfl))) (fun _ _ _ _ _ => pts_one (pt_cmpR op_ge (pe_ixTK K (by rfl) (pv 5) pe_int) (pv 3) (nomark _))) (fun _ _ _ _ _ => (pv 5))) pa_nil))))))))), ?_⟩
    have hg20 := R.okG.1
    have hm1 : m ≤ gs.length := R.okT.2
    refine ⟨_, rfl, d, rfl, h1, ?_⟩
    refine ⟨_, rfl, _, rfl, p, g, t, o, gs, m, d, rfl, R, h1, h2, fun q rs H1 hq S1 hq1 hlen hall => ?_⟩
    refine ⟨q, rfl, ⟨_, SqL.of hq1⟩, fun D hD => lc_list (a := q) (xs := rs) (fun i H' => Same H1 H' ∧ ∃ ps, H' D = some (.lst ps) ∧ ps.length ≤ i ∧ Found H1 gs m d i ps) ⟨same_new hD, [], upd_same, Nat.le_refl _, ⟨(fun x hx => nomatch hx), fun l hl => absurd hl (Nat.not_lt_zero _)⟩⟩ (fun i H' _ z => SqL.of (z.1 _ _ hq1)) (fun i x H2 hx z => ?_) (fun H2 z => ?_)⟩
    · obtain ⟨S2, ps, hps, hpl, hF⟩ := z
      obtain ⟨tt, r, e, rfl, hre, htt, hrr⟩ := hall i x hx
      have hi := (List.getElem?_eq_some_iff.mp hx).1
      refine ⟨tt, _, rfl, SqT.of (S2 _ _ htt), rfl, _, _, rfl, _, _, rfl, rfl, rfl, ?_⟩
      refine ⟨_, rfl, _, rfl, rfl, _, rfl, ?_⟩
      by_cases he : off gs (.rep m) e - off gs (.rep m) i = d
      · refine iteTb (decide_eq_true (by rw [he])) ?_
        refine ⟨_, rfl, ps, hps, small1000 (by omega), same_app hD S2, ps ++ [.ref r], upd_same, by rw [List.length_append]; show ps.length + 1 ≤ i + 1; omega, ⟨fun y hy => ?_, fun l hl => ?_⟩⟩
        · rcases List.mem_append.mp hy with hy | hy
          · obtain ⟨r', e', l', a1, a2, a3, a4⟩ := hF.all y hy
            exact ⟨r', e', l', a1, a2, a3, Nat.lt_succ_of_lt a4⟩
          · exact ⟨r, e, i, List.mem_singleton.mp hy, hrr, ⟨hre, he⟩, Nat.lt_succ_self i⟩
        · by_cases hli : l = i
          · subst hli
            exact ⟨e, hre, fun _ => ⟨r, List.mem_append_right _ (List.mem_singleton.mpr rfl), hrr⟩⟩
          · obtain ⟨e', b1, b2⟩ := hF.has l (by omega)
            exact ⟨e', b1, fun h => let ⟨r', c1, c2⟩ := b2 h; ⟨r', List.mem_append_left _ c1, c2⟩⟩
      · refine iteFb (decide_eq_false fun h => he (V.int.inj h)) ?_
        refine ⟨S2, ps, hps, Nat.le_succ_of_le hpl, ⟨fun y hy => ?_, fun l hl => ?_⟩⟩
        · obtain ⟨r', e', l', a1, a2, a3, a4⟩ := hF.all y hy
          exact ⟨r', e', l', a1, a2, a3, Nat.lt_succ_of_lt a4⟩
        · by_cases hli : l = i
          · subst hli
            exact ⟨e, hre, fun h => absurd h he⟩
          · exact hF.has l (by omega)
    obtain ⟨S2, ps, hps, hpl, hF⟩ := z
    refine ⟨D, ps, rfl, SqL.of hps, fun x hx => ?_, fun ys so hperm hso => ?_⟩
    · obtain ⟨r, e, l, a1, a2, _⟩ := hF.all x hx
      exact ⟨r, _, _, a1, S2 _ _ a2⟩
    have S3 := S2.trans (same_new (o := .lst ys) hso)
    have hso3 := upd_same (H := H2) (a := so) (o := .lst ys)
    generalize (upd H2 so (.lst ys)) = H3 at S3 hso3 ⊢
    have S13 := S1.trans S3
    have R3 := R.mono S13
    obtain ⟨dx, hob⟩ := R3.ob
    refine ⟨_, rfl, p, dx, _, rfl, hob, flds_no _ _ _ (by decide +kernel) (by decide +kernel) (by decide +kernel), p, g, t, o, gs, m, rfl, R3, ?_⟩
    refine ⟨_, rfl, rfl, _, rfl, iteFb (decide_eq_false fun e => nomatch e) ?_⟩
    have hyl : ys.length ≤ gs.length := by rw [hperm.length_eq]; omega
    have item : ∀ x ∈ ys, ∃ (r : Addr) (e l : Nat), x = .ref r ∧ H3 r = some (.tup [.int (e : Int), .int (l : Int)]) ∧ Hit gs m d l e ∧ l < gs.length := fun x hx => by
      obtain ⟨r, e, l, a1, a2, a3, a4⟩ := hF.all x (hperm.mem_iff.mp hx)
      exact ⟨r, e, l, a1, S3 _ _ a2, a3, by omega⟩
    refine ⟨_, rfl, so, rfl, ⟨_, SqL.of hso3⟩, fun D1 hD1 => lc_list (a := so) (xs := ys) (fun i H' => Same H3 H' ∧ ∃ ps', H' D1 = some (.lst ps') ∧ ps'.length ≤ i) ⟨same_new hD1, [], upd_same, Nat.le_refl _⟩ (fun i H' _ z => SqL.of (z.1 _ _ hso3)) (fun i x H4 hx z => ?_) (fun H4 z => ?_)⟩
    · obtain ⟨S4, ps', hps', hpl'⟩ := z
      obtain ⟨r, e, l, rfl, hr, _, hl⟩ := item x (List.mem_of_getElem? hx)
      have hi := (List.getElem?_eq_some_iff.mp hx).1
      refine ⟨rfl, ?_⟩
      refine ⟨_, rfl, r, _, _, .int (l : Int), rfl, rfl, SqT.of (S4 _ _ hr), atI_nat (j := 1) rfl, _, rfl, _, _, rfl, rfl, _, rfl, ?_⟩
      by_cases hlt : (l : Int) < ((gs.length - m : Nat) : Int)
      · refine iteTb (decide_eq_true hlt) ?_
        exact ⟨_, rfl, ps', hps', small1000 (by omega), same_app hD1 S4, ps' ++ [.ref r], upd_same, by rw [List.length_append]; show ps'.length + 1 ≤ i + 1; omega⟩
      · refine iteFb (decide_eq_false hlt) ?_
        exact ⟨S4, ps', hps', Nat.le_succ_of_le hpl'⟩
    obtain ⟨S4, ps1, hps1, _⟩ := z
    have hso4 := S4 _ _ hso3
    refine ⟨_, rfl, so, rfl, ⟨_, SqL.of hso4⟩, fun D2 hD2 => lc_list (a := so) (xs := ys) (fun i H' => Same H4 H' ∧ ∃ ps', H' D2 = some (.lst ps') ∧ ps'.length ≤ i ∧ (∀ x ∈ ps', ∃ l e, gs.length - m ≤ l ∧ l < gs.length ∧ Hit gs m d l e) ∧ (ps' = [] → ∀ (r : Addr) (e l : Nat), V.ref r ∈ ys.take i → H3 r = some (.tup [.int (e : Int), .int (l : Int)]) → l < gs.length - m))
      ⟨same_new hD2, [], upd_same, Nat.le_refl _, (fun x hx => nomatch hx), fun _ r e l h => by rw [List.take_zero] at h; cases h⟩ (fun i H' _ z => SqL.of (z.1 _ _ hso4)) (fun i x H5 hx z => ?_) (fun H5 z => ?_)⟩
    · obtain ⟨S5, ps', hps', hpl', hin, hno⟩ := z
      obtain ⟨r, e, l, rfl, hr, hit, hl⟩ := item x (List.mem_of_getElem? hx)
      have hi := (List.getElem?_eq_some_iff.mp hx).1
      refine ⟨rfl, ?_⟩
      refine ⟨_, rfl, r, _, _, .int (l : Int), rfl, rfl, SqT.of (S5 _ _ (S4 _ _ hr)), atI_nat (j := 1) rfl, _, rfl, _, _, rfl, rfl, _, rfl, ?_⟩
      by_cases hge : ((gs.length - m : Nat) : Int) ≤ (l : Int)
      · refine iteTb (decide_eq_true hge) ?_
        refine ⟨_, rfl, ps', hps', small1000 (by omega), same_app hD2 S5, ps' ++ [.ref r], upd_same, by rw [List.length_append]; show ps'.length + 1 ≤ i + 1; omega, fun y hy => ?_, fun h => by simp at h⟩
        rcases List.mem_append.mp hy with hy | hy
        · exact hin y hy
        · exact ⟨l, e, by omega, hl, hit⟩
      · refine iteFb (decide_eq_false hge) ?_
        refine ⟨S5, ps', hps', Nat.le_succ_of_le hpl', hin, fun h0 r' e' l' hm hr' => ?_⟩
        rw [List.take_add_one, hx] at hm
        rcases List.mem_append.mp hm with hm | hm
        · exact hno h0 r' e' l' hm hr'
        · have er : r' = r := V.ref.inj (by simpa using hm)
          subst er
          rw [hr] at hr'
          have el : (l : Int) = (l' : Int) := by
            have := HO.tup.inj (Option.some.inj hr')
            simp at this
            omega
          omega
    obtain ⟨S5, ps2, hps2, hpl2, hin, hno⟩ := z
    refine ⟨by show 2 ≤ sizeLine; decide, fun q9 hq9 => ?_⟩
    have S9 := same_new (o := .tup [.ref D1, .ref D2]) hq9
    refine k q9 D1 D2 ps2 _ (((S13.trans S4).trans S5).trans S9) upd_same (S9 _ _ hps2) (by omega) hin fun h0 l hl1 hl2 => ?_
    obtain ⟨e, he, hh⟩ := hF.has l (by omega)
    refine ⟨e, he, fun hd => ?_⟩
    obtain ⟨r, hr1, hr2⟩ := hh hd
    have := hno h0 r e l (by rw [List.take_length]; exact hperm.mem_iff.mpr hr1) (S3 _ _ hr2)
    omega
end
end RS
namespace RS
open PySem L2
/-! ### which distances share slots for ever -/
theorem mem_resid {gs : List Int} {m : Nat} {x : Int} : x ∈ resid gs m 0 ↔ ∃ k, k < m ∧ x = pre gs (gs.length - m + k) % per gs m := by
  unfold resid repOffs
  rw [List.map_map, List.mem_map]
  constructor
  · rintro ⟨k, hk, rfl⟩
    exact ⟨k, List.mem_range.mp hk, by show (0 + _) % _ = _; rw [Int.zero_add]⟩
  · rintro ⟨k, hk, rfl⟩
    exact ⟨k, List.mem_range.mpr hk, by show (0 + _) % _ = _; rw [Int.zero_add]⟩
theorem mem_difs {gs : List Int} {m : Nat} {v : Int} : v ∈ difs gs m ↔ ∃ i j, i < m ∧ j < m ∧ v = (pre gs (gs.length - m + i) - pre gs (gs.length - m + j)) % per gs m := by
  unfold difs
  rw [List.mem_flatMap]
  constructor
  · rintro ⟨x, hx, hv⟩
    obtain ⟨y, hy, rfl⟩ := List.mem_map.mp hv
    obtain ⟨i, hi, rfl⟩ := mem_resid.mp hx
    obtain ⟨j, hj, rfl⟩ := mem_resid.mp hy
    exact ⟨i, j, hi, hj, by rw [← Int.sub_emod]⟩
  · rintro ⟨i, j, hi, hj, rfl⟩
    exact ⟨_, mem_resid.mpr ⟨i, hi, rfl⟩, List.mem_map.mpr ⟨_, mem_resid.mpr ⟨j, hj, rfl⟩, by rw [← Int.sub_emod]⟩⟩
section
variable {gs : List Int} {m : Nat} (okG : GapsOk gs) (h1 : 1 ≤ m) (h2 : m ≤ gs.length)
include okG h1 h2
theorem hit_difs {d : Int} {l e : Nat} (hd : 1 ≤ d) (hl : gs.length - m ≤ l) (hl2 : l < gs.length) (h : Hit gs m d l e) : d % per gs m ∈ difs gs m := by
  have okT : TlOk gs.length (.rep m) := ⟨h1, h2⟩
  have hel : l < e := by
    rcases Nat.lt_or_ge l e with z | z
    · exact z
    · have := off_mono okG okT e (l - e) (fun z => by cases z)
      rw [show e + (l - e) = l by omega] at this
      have := h.2
      omega
  obtain ⟨q, r, hr, he⟩ : ∃ q r, r < m ∧ e = gs.length - m + r + m * q := ⟨(e - (gs.length - m)) / m, (e - (gs.length - m)) % m, Nat.mod_lt _ (by omega), by have := Nat.mod_add_div (e - (gs.length - m)) m; omega⟩
  have e1 := off_turn h1 h2 (j := gs.length - m + r) (by omega) (by omega) q
  have e2 : off gs (.rep m) l = pre gs l := off_low (by omega)
  have hh := h.2
  rw [he, e1, e2] at hh
  refine mem_difs.mpr ⟨r, l - (gs.length - m), hr, by omega, ?_⟩
  rw [← hh, show gs.length - m + (l - (gs.length - m)) = l by omega, show pre gs (gs.length - m + r) + (q : Int) * per gs m - pre gs l = pre gs (gs.length - m + r) - pre gs l + (q : Int) * per gs m by omega, Int.add_mul_emod_self_right]
theorem difs_hit {d : Int} (hd : 1 ≤ d) (h : d % per gs m ∈ difs gs m) : ∃ l, gs.length - m ≤ l ∧ l < gs.length ∧ ∀ e, Reach gs m d l e → off gs (.rep m) e - off gs (.rep m) l = d := by
  have okT : TlOk gs.length (.rep m) := ⟨h1, h2⟩
  have hp := per_bd okG h1 h2
  obtain ⟨i, j, hi, hj, ev⟩ := mem_difs.mp h
  refine ⟨gs.length - m + j, by omega, by omega, fun e hR => ?_⟩
  have e2 : off gs (.rep m) (gs.length - m + j) = pre gs (gs.length - m + j) := off_low (by omega)
  have hz : (d - (pre gs (gs.length - m + i) - pre gs (gs.length - m + j))) % per gs m = 0 := by rw [Int.sub_emod, ev, Int.sub_self, Int.zero_emod]
  obtain ⟨q, hq⟩ := Int.dvd_of_emod_eq_zero hz
  have a1 := pre_mono okG (gs.length - m + i) (m - i) (by omega)
  have a2 := pre_mono okG (gs.length - m) j (by omega)
  rw [show gs.length - m + i + (m - i) = gs.length by omega] at a1
  have hper : per gs m = pre gs gs.length - pre gs (gs.length - m) := rfl
  have q0 : 0 ≤ q := by
    rcases Int.lt_or_le q 0 with z | z
    · have := Int.mul_le_mul_of_nonneg_left (show q ≤ -1 by omega) (show 0 ≤ per gs m by omega)
      rw [Int.mul_neg, Int.mul_one] at this
      omega
    · exact z
  obtain ⟨n, rfl⟩ : ∃ n : Nat, q = (n : Int) := ⟨q.toNat, by omega⟩
  have e3 := off_turn h1 h2 (j := gs.length - m + i) (by omega) (by omega) n
  have hle := hR.le
  have hlt := hR.lt
  rw [e2] at hle hlt ⊢
  have hc : per gs m * (n : Int) = (n : Int) * per gs m := Int.mul_comm _ _
  -- the attempt that has the offset
  generalize gs.length - m + i + m * n = s at e3
  rcases Nat.lt_trichotomy e s with z | z | z
  · have := off_lt okG okT z (fun z => by cases z)
    omega
  · subst z
    omega
  · have h3 := hlt (by omega)
    have h4 := off_mono okG okT s (e - 1 - s) (fun z => by cases z)
    rw [show s + (e - 1 - s) = e - 1 by omega] at h4
    omega
end
end RS
namespace RS
open PySem L2
theorem difs_neg {gs : List Int} {m : Nat} {d : Int} : (0 - d) % per gs m ∈ difs gs m ↔ d % per gs m ∈ difs gs m := by
  have one : ∀ d : Int, d % per gs m ∈ difs gs m → (0 - d) % per gs m ∈ difs gs m := fun d h => by
    obtain ⟨i, j, hi, hj, e⟩ := mem_difs.mp h
    refine mem_difs.mpr ⟨j, i, hj, hi, ?_⟩
    rw [show pre gs (gs.length - m + j) - pre gs (gs.length - m + i) = 0 - (pre gs (gs.length - m + i) - pre gs (gs.length - m + j)) by omega, Int.sub_emod, e, ← Int.sub_emod]
  refine ⟨fun h => ?_, one d⟩
  have := one _ h
  rwa [show 0 - (0 - d) = d by omega] at this
end RS
namespace RS
open PySem L2
/-! ### lists of ints as data -/
theorem ints_dp {K : PySem.W.Frag} {H : Hp} : ∀ ns : List Int, DpAll K H (ns.map V.int) (ns.map PyData.int)
  | [] => .nil
  | n :: r => .cons (.int n) (ints_dp r)
theorem list_dp {K : PySem.W.Frag} {H : Hp} {a : Addr} {ns : List Int} (h : SqL K H a (ns.map V.int)) : Dp K H (.ref a) (.list (ns.map PyData.int)) := .lst h (ints_dp ns)
theorem list_eqv (ns ms : List Int) : PyData.eqv (.list (ns.map PyData.int)) (.list (ms.map PyData.int)) = decide (ns = ms) := PySem.W.ked_eqvAll ns ms
end RS
/-! ### a list against the empty list; len in a comprehension's block -/
namespace L2
open PySem PySem.Spec PyProof.Rows
section
variable {X : Cx}
/-- a list, held against the empty list -/
def rNilB (K : PySem.W.Frag) (f : Bool → Bool) : R2 := fun x y H Q => ∃ a b xs, x = .ref a ∧ y = .ref b ∧ SqL K H a xs ∧ SqL K H b [] ∧ Q (.bl (f xs.isEmpty)) H
theorem op_eqNil (hu : X.A.units + 64 < cLine) : OpR X (compareOp .Eq) (rNilB X.K id) := by
  intro pins s σ H x y v u Q I rx ry h
  obtain ⟨a, b, xs, rfl, rfl, ha, hb, q⟩ := h
  cases xs with
  | nil => exact op_eqD hu pins s σ H _ _ v u Q I rx ry ⟨.list [], .list [], .lst ha .nil, .lst hb .nil, rfl, rfl, q⟩
  | cons z r =>
    cases rx
    cases ry
    obtain ⟨its, r1, h1, _⟩ := I.list ha
    obtain ⟨its2, r2, h2, _⟩ := I.list hb
    cases r2
    have e1 := r1.length
    refine SeqAt.eq_list_lengthsAt h1.isList h2.isList ?_ (by omega) ⟨.bl _, H, I, rfl, q⟩
    rw [List.size_toArray, ← e1]
    rfl
theorem op_neNil (hu : X.A.units + 64 < cLine) : OpR X (compareOp .NotEq) (rNilB X.K not) := by
  intro pins s σ H x y v u Q I rx ry h
  obtain ⟨a, b, xs, rfl, rfl, ha, hb, q⟩ := h
  cases xs with
  | nil => exact op_neD hu pins s σ H _ _ v u Q I rx ry ⟨.list [], .list [], .lst ha .nil, .lst hb .nil, rfl, rfl, q⟩
  | cons z r =>
    cases rx
    cases ry
    obtain ⟨its, r1, h1, _⟩ := I.list ha
    obtain ⟨its2, r2, h2, _⟩ := I.list hb
    cases r2
    have e1 := r1.length
    refine SeqAt.RcNeAt.lists_lengths h1.isList h2.isList ?_ (by omega) X.prog X.w _ _ ⟨.bl _, H, I, rfl, q⟩
    rw [List.size_toArray, ← e1]
    rfl
def rLenK (K : PySem.W.Frag) : List V → Hp → VK → Prop := fun xs H Q => ∃ p ys, xs = [V.ref p] ∧ (SqL K H p ys ∨ SqT K H p ys) ∧ Q (.int (ys.length : Int)) H
theorem pe_lenK {e : Expr} {te : TE} {p pos : Pos} (K : PySem.W.Frag) (hK : X.K = K) (hg : Gl X "len") (hm : X.mg "len" = none) (ha : PE X e te) (hs : starEach [e] X.env = (false, eval e X.env) :: starEach [] X.env := by rfl) : PE X (.Call (.Name "len" p) [e] [] pos) (tCB (rLenK K) (tCons te tNil)) := by
  subst hK
  exact pe_callB (r := rLenK X.K) call_len_seq hg hm (by decide +kernel) (pa_cons ha pa_nil hs) (he := hs)
end
end L2
namespace RS
open PySem L2
/-! ### what the law's turn keeps -/
structure LawAt (C : Addr) (H : Hp) (a L g p g2 t o : Addr) (cs gs : List Int) (tl : Tl) : Prop where
  R : RuleAt C H p g2 t o gs tl
  hL : H L = some (.lst (cs.map V.int))
  hg : H g = some (.lst (gs.map V.int))
  nL : L ≠ a
  ng : g ≠ a
  np : p ≠ a
  n2 : g2 ≠ a
  nt : t ≠ a
  no : o ≠ a
theorem RuleAt.kx {C a : Addr} {H H' : Hp} {p g t o : Addr} {gs : List Int} {tl : Tl} (R : RuleAt C H p g t o gs tl) (h : Kx a H H') (np : p ≠ a) (ng : g ≠ a) (nt : t ≠ a) (no : o ≠ a) : RuleAt C H' p g t o gs tl :=
  ⟨let ⟨dx, e⟩ := R.ob; ⟨dx, h _ _ np e⟩, h _ _ ng R.hg, h _ _ nt R.ht, h _ _ no R.ho, R.okG, R.okT⟩
theorem LawAt.kx {C : Addr} {H H' : Hp} {a L g p g2 t o : Addr} {cs gs : List Int} {tl : Tl} (B : LawAt C H a L g p g2 t o cs gs tl) (h : Kx a H H') : LawAt C H' a L g p g2 t o cs gs tl :=
  ⟨B.R.kx h B.np B.n2 B.nt B.no, h _ _ B.nL B.hL, h _ _ B.ng B.hg, B.nL, B.ng, B.np, B.n2, B.nt, B.no⟩
theorem LawAt.same {C : Addr} {H H' : Hp} {a L g p g2 t o : Addr} {cs gs : List Int} {tl : Tl} (B : LawAt C H a L g p g2 t o cs gs tl) (h : Same H H') : LawAt C H' a L g p g2 t o cs gs tl := B.kx (Kx.of h)
theorem made_same {H : Hp} {p dx : Addr} {o1 o2 : HO} (hp : H p = none) (hd : H dx = none) : Same H (upd (upd H dx o1) p o2) := fun b u e => by
  rw [upd_ne (ne_of_none e hp), upd_ne (ne_of_none e hd)]
  exact e
/-- the law's promise: a list of at most 63 ints is handed in, True comes out -/
def spLaw (K : PySem.W.Frag) : Sp := fun vs H Q _ => ∃ (a : Addr) (ns : List Int), vs = [.ref a] ∧ SqL K H a (ns.map V.int) ∧ ns.length ≤ 63 ∧ ∀ H', Q (.bl true) H'
/-- the cells: the first number (or 0), then some more -/
def cellsOf (n : Nat) (ns : List Int) : List Int := ns.getD 0 0 :: ((ns.drop 1).take (n - 1))
end RS
namespace RS
open PySem L2
theorem set_uniq {ks ls ns : List Int} (a : SetOf ks ns) (b : SetOf ls ns) : ks = ls :=
  List.Perm.eq_of_pairwise (le := fun x y : Int => x < y) (fun x y _ _ h h' => by omega) a.pw b.pw ((List.perm_ext_iff_of_nodup (a.pw.imp fun h => by omega) (b.pw.imp fun h => by omega)).mpr fun x => (a.mem x).trans (b.mem x).symm)
def klN : List Str := ["_law_script", "_law_cell", "_law_source", "_law_gaps", "_law_count", "_law_rule", "_law_period", "_law_due_here", "_law_told", "_law_repeat", "_law_apart", "_law_wanted"]
theorem scLaw : FnScope klN ["_law_script"] (defScope s_law) := ⟨rfl, rfl, rfl, by decide +kernel, rfl, by decide +kernel, by decide +kernel⟩
theorem RuleAt.off {C q : Addr} {H : Hp} {p g t o : Addr} {gs : List Int} {tl : Tl} {u : HO} (R : RuleAt C H p g t o gs tl) (np : p ≠ q) (ng : g ≠ q) (nt : t ≠ q) (no : o ≠ q) : RuleAt C (upd H q u) p g t o gs tl :=
  R.kx (a := q) (fun b o' nb e => by rw [upd_ne nb]; exact e) np ng nt no
section
variable {P : Program} {w : World} {K : PySem.W.Frag} {mg : Str → Option Value} {base : Heap}
theorem ok_law {f C fI fPer fCell fSrc fN fO fRep fDue fLD fMF fSh : Addr} {fd fdI fdPer fdCell fdSrc fdN fdO fdRep fdDue fdLD fdMF fdSh : FuncData} (F : Fun K "law" "law" s_law f fd) (T : Txt K mg C) (M : Mk K C fI) (GI : FnOk P w K mg base CX0 3 fI fdI ["self", "gaps", "tail"] (spInit C)) (bI : Binds K fdI ["self", "gaps", "tail"] [])
    (GPer : FnOk P w K mg base CX0 2 fPer fdPer ["self"] (spPer C)) (bPer : Binds K fdPer ["self"] []) (mPer : Meth K C "period" fPer)
    (GCell : FnOk P w K mg base CX0 1 fCell fdCell ["_law_script", "_law_index"] (spCell K)) (bCell : Binds K fdCell ["_law_script", "_law_index"] []) (mCell : mg "_law_cell_at" = some (.ref fCell)) (kCell : PySem.W.keepIn K (.ref fCell) = true)
    (GSrc : FnOk P w K mg base CX0 1 fSrc fdSrc ["_law_cell"] spSrcOf) (bSrc : Binds K fdSrc ["_law_cell"] []) (mSrc : mg "_law_source_of" = some (.ref fSrc)) (kSrc : PySem.W.keepIn K (.ref fSrc) = true)
    (GN : FnOk P w K mg base CX0 1 fN fdN ["_law_source", "_law_bound"] spNext) (bN : Binds K fdN ["_law_source", "_law_bound"] []) (mN : mg "_law_draw" = some (.ref fN)) (kN : PySem.W.keepIn K (.ref fN) = true)
    (GO : FnOk P w K mg base CX0 2 fO fdO ["_law_source", "_law_options"] spOne) (bO : Binds K fdO ["_law_source", "_law_options"] []) (mO : mg "_law_choice" = some (.ref fO)) (kO : PySem.W.keepIn K (.ref fO) = true)
    (GRep : FnOk P w K mg base CX0 3 fRep fdRep ["_law_source"] spRep) (bRep : Binds K fdRep ["_law_source"] []) (mRep : mg "_law_repeating" = some (.ref fRep)) (kRep : PySem.W.keepIn K (.ref fRep) = true)
    (GDue : FnOk P w K mg base CX0 2 fDue fdDue ["_law_gaps", "_law_count"] spLDue) (bDue : Binds K fdDue ["_law_gaps", "_law_count"] []) (mDue : mg "_law_due" = some (.ref fDue)) (kDue : PySem.W.keepIn K (.ref fDue) = true)
    (GLD : FnOk P w K mg base CX0 5 fLD fdLD ["rule"] (spLD C)) (bLD : Binds K fdLD ["rule"] []) (mLD : mg "loop_distances" = some (.ref fLD)) (kLD : PySem.W.keepIn K (.ref fLD) = true)
    (GMF : FnOk P w K mg base CX0 6 fMF fdMF ["rule", "distance"] (spMF C)) (bMF : Binds K fdMF ["rule", "distance"] []) (mMF : mg "meets_forever" = some (.ref fMF)) (kMF : PySem.W.keepIn K (.ref fMF) = true)
    (GSh : FnOk P w K mg base CX0 8 fSh fdSh ["rule", "distance"] (spSh C)) (bSh : Binds K fdSh ["rule", "distance"] []) (mSh : mg "shared_attempts" = some (.ref fSh)) (kSh : PySem.W.keepIn K (.ref fSh) = true) :
    FnOk P w K mg base CX0 9 f fd ["_law_script"] (spLaw K) := by
  refine F.ok scLaw (fun vs H Q E h => ?_) (fun cdv A outer s H vs Q E hr h => ?_)
  · obtain ⟨a, ns, rfl, _⟩ := h
    rfl
  · obtain ⟨sc, ns, rfl, hs, hn63, k⟩ := h
    have hr1 := hr.mono (show 1 ≤ 8 by decide)
    have hr2 := hr.mono (show 2 ≤ 8 by decide)
    have hr3 := hr.mono (show 3 ≤ 8 by decide)
    have hr4 := hr.mono (show 4 ≤ 8 by decide)
    have hr5 := hr.mono (show 5 ≤ 8 by decide)
    have hr6 := hr.mono (show 6 ≤ 8 by decide)
    refine ⟨_, (pss_cons (ps_for PassesOwn.never rfl (pi_list (pe_op op_cat (pe_lst (pa_cons (pe_call GCell hr1 rfl mCell kCell bCell .nil pass0 (pa_cons (pv 0) (pa_cons pe_int pa_nil))) pa_nil)) (pe_slice sl_list (pv 0) (po_some pe_int) (po_some pe_int)))) (pg_name (i := 1) scLaw.nd rfl (Or.inl rfl)) (pss_cons (ps_set (i := 2) scLaw.nd rfl (Or.inl rfl) (pe_call GSrc hr1 rfl mSrc kSrc bSrc .nil pass0 (pa_cons (pv 1) pa_nil))) (pss_cons (ps_asg (pe_call GRep hr3 rfl mRep kRep bRep .nil pass0 (pa_cons (pv 2) pa_nil)) (pg_tup rfl (pgs_cons (pg_name (i := 3) scLaw.nd rfl (Or.inl rfl)) (pgs_cons (pg_name (i := 4) scLaw.nd rfl (Or.inl rfl)) pgs_nil)))) (pss_cons (ps_set (i := 5) scLaw.nd rfl (Or.inl rfl) (pe_make M GI hr4 rfl T.mgC bI .nil pass0 (pa_cons (pv 3) (pa_cons (pe_tup (pa_cons pe_str (pa_cons (pv 4) pa_nil))) pa_nil)))) (pss_cons (ps_asg (pe_call GDue hr2 rfl mDue kDue bDue .nil pass0 (pa_cons (pv 3) (pa_cons (pv 4) pa_nil))) (pg_tup rfl (pgs_cons (pg_name (i := 6) scLaw.nd rfl (Or.inl rfl)) (pgs_cons (pg_name (i := 7) scLaw.nd rfl (Or.inl rfl)) pgs_nil)))) (pss_cons (ps_set (i := 8) scLaw.nd rfl (Or.inl rfl) (pe_call GLD hr5 rfl mLD kLD bLD .nil pass0 (pa_cons (pv 5) pa_nil))) (pss_cons (ps_if (PW.pt (pw_or (pt_cmpR (op_neD hr.units) (pv 8) (pv 7) (nomark _)) (pw_or1 (pt_cmpR (op_neD hr.units) (pe_meth0 (pv 5) T.cl mPer GPer hr2 bPer .nil pass0) (pv 6) (nomark _))))) (pss_one (ps_ret pe_bl)) pss_nil) (pss_cons (ps_expr (pe_bm PySem.F.plainAttrs_list PySem.F.slot_list_append PySem.F.type_list_append mt_append (pv 8) (pa_cons pe_non pa_nil))) (pss_cons (ps_if (pt_cmpR (op_neD hr.units) (pe_call GLD hr5 rfl mLD kLD bLD .nil pass0 (pa_cons (pv 5) pa_nil)) (pv 7) (nomark _)) (pss_one (ps_ret pe_bl)) pss_nil) (pss_cons (ps_for PassesOwn.never rfl (pi_range1 rfl T.range (pa_cons pe_int pa_nil)) (pg_name (i := 9) scLaw.nd rfl (Or.inl rfl)) (pss_cons (ps_set (i := 10) scLaw.nd rfl (Or.inl rfl) (pe_op op_add (pe_call GO hr2 rfl mO kO bO .nil pass0 (pa_cons (pv 2) (pa_cons (pv 7) pa_nil))) (pe_call GO hr2 rfl mO kO bO .nil pass0 (pa_cons (pv 2) (pa_cons (pe_lst (pa_cons pe_int (pa_cons pe_int (pa_cons pe_int (pa_cons (pe_un un_neg pe_int) (pa_cons (pe_call GN hr1 rfl mN kN bN .nil pass0 (pa_cons (pv 2) (pa_cons (pv 6) pa_nil))) pa_nil)))))) pa_nil))))) (pss_cons (ps_set (i := 10) scLaw.nd rfl (Or.inl rfl) (pe_op op_add (pv 10) (pe_op op_mul (pv 6) (pe_call GO hr2 rfl mO kO bO .nil pass0 (pa_cons (pv 2) (pa_cons (pe_lst (pa_cons pe_int (pa_cons pe_int (pa_cons (pe_un un_neg pe_int) (pa_cons (pe_call GN hr1 rfl mN kN bN .nil pass0 (pa_cons (pv 2) (pa_cons (pe_op op_pow pe_int pe_int) pa_nil))) pa_nil))))) pa_nil)))))) (pss_cons (ps_set (i := 11) scLaw.nd rfl (Or.inl rfl) (pe_cmpR (r := rIn K false) op_in_seq (pe_op op_mod (pe_callTy call_int1 (by rfl) T.int (by decide +kernel) (pa_cons (pv 10) pa_nil)) (pv 6)) (pv 7) (by rfl))) (pss_cons (ps_if (PW.pt (pw_or (pt_cmpR (op_neD hr.units) (pe_call GMF hr6 rfl mMF kMF bMF .nil pass0 (pa_cons (pv 5) (pa_cons (pv 10) pa_nil))) (pv 11) (nomark _)) (pw_or1 (pt_cmpR (op_neD hr.units) (pe_call GMF hr6 rfl mMF kMF bMF .nil pass0 (pa_cons (pv 5) (pa_cons (pe_op op_sub pe_int (pv 10)) pa_nil))) (pv 11) (nomark _))))) (pss_one (ps_ret pe_bl)) pss_nil) (pss_one (ps_if (PW.pt (pw_and (pt_cmpR op_gt (pv 10) pe_int (nomark _)) (pw_and1 (pt_cmpR (op_neD hr.units) (pe_cmpR (op_neNil hr.units) (pe_ix ix_tup (pe_call GSh hr rfl mSh kSh bSh .nil pass0 (pa_cons (pv 5) (pa_cons (pv 10) pa_nil))) pe_int (fun _ _ => rfl)) (pe_lst pa_nil) (nomark _)) (pv 11) (nomark _))))) (pss_one (ps_ret pe_bl)) pss_nil))))))) (pss_one (ps_if (PW.pt (pw_or (pt_not (pt_val (pe_call GMF hr6 rfl mMF kMF bMF .nil pass0 (pa_cons (pv 5) (pa_cons pe_int pa_nil))))) (pw_or1 (pt_not (pt_val (pe_call GMF hr6 rfl mMF kMF bMF .nil pass0 (pa_cons (pv 5) (pa_cons (pv 6) pa_nil)))))))) (pss_one (ps_ret pe_bl)) pss_nil)))))))))))) (pss_one (ps_ret pe_bl))), ?_⟩
    -- the cells
    refine ⟨_, rfl, sc, ns, rfl, hs, (by show 1 ≤ sizeLine; decide), fun l1 hl1 => ?_⟩
    refine ⟨_, rfl, _, rfl, _, rfl, sc, _, rfl, (same_new hl1).seq hs, fun l2 hl2 => ?_⟩
    have hl1' := same_new (o := .lst (cutV (ns.map V.int) (some 1) (some 6))) hl2 _ _ (upd_same (H := H) (a := l1) (o := .lst [V.int (ns.getD 0 0)]))
    refine ⟨l1, l2, _, _, rfl, rfl, hl1', upd_same, ?_, fun L hL => ?_⟩
    · have := cutV_length (ns.map V.int) (some 1) (some 6)
      rw [List.length_map] at this
      exact Nat.le_of_lt (small1000 (by show 1 + _ ≤ 1000; omega))
    have ecs : [V.int (ns.getD 0 0)] ++ cutV (ns.map V.int) (some 1) (some 6) = (cellsOf 6 ns).map V.int := by
      rw [show (some (1 : Int)) = some ((1 : Nat) : Int) from rfl, show (some (6 : Int)) = some ((6 : Nat) : Int) from rfl, cut_mid]
      unfold cellsOf
      rw [List.map_cons, List.map_take, List.map_drop]
      rfl
    rw [ecs]
    generalize cellsOf 6 ns = cs
    refine ⟨L, rfl, ⟨_, SqL.of upd_same⟩, for_list (a := L) (xs := cs.map V.int) (fun i σ H' => (∃ v1 v2 v3 v4 v5 v6 v7 v8 v9 v10 v11, σ = [some (.ref sc), v1, v2, v3, v4, v5, v6, v7, v8, v9, v10, v11]) ∧ H' L = some (.lst (cs.map V.int))) ⟨⟨_, _, _, _, _, _, _, _, _, _, _, rfl⟩, upd_same⟩ (fun i σ H' _ p => SqL.of p.2) ?_ (fun σ H' p => k H')⟩
    rintro i x σ H0 hx ⟨⟨v1, v2, v3, v4, v5, v6, v7, v8, v9, v10, v11, rfl⟩, hL0⟩
    obtain ⟨c, _, rfl⟩ := map_of hx
    clear hx
    refine ⟨_, rfl, c, rfl, fun a H1 ha S1 R1 => ?_⟩
    have nLa : L ≠ a := ne_of_none hL0 ha
    have hL1 := S1 _ _ hL0
    refine ⟨_, rfl, a, 0, rfl, R1, by omega, fun u g gs m H2 hg0 hu hg okG hm1 hm2 kx2 R2 => ?_⟩
    have nga : g ≠ a := (R1.new hg0).symm
    have hL2 := kx2 _ _ nLa hL1
    clear kx2 R1 hL1 hL0 ha S1
    refine ⟨u, _, rfl, SqT.of hu, rfl, _, _, rfl, _, _, rfl, rfl, ?_⟩
    -- the rule
    refine ⟨_, rfl, _, rfl, (by show 2 ≤ sizeLine; decide), fun t0 ht0 => fun p dx hp hdx _ => ?_⟩
    have St := same_new (o := .tup [V.str "repeat", .int (m : Int)]) ht0
    have ht1 : (upd H2 t0 (.tup [V.str "repeat", .int (m : Int)])) t0 = some (.tup (Tl.rep m).vs) := upd_same
    have hg2' := St _ _ hg
    have hL2' := St _ _ hL2
    have R2' := R2.mono St
    generalize (upd H2 t0 (.tup [V.str "repeat", .int (m : Int)])) = H3 at hp hdx ht1 hg2' hL2' R2' ⊢
    have Sm : Same H3 (upd (upd H3 dx (.own p)) p (.ins C dx [])) := made_same hp hdx
    refine ⟨p, dx, g, t0, gs, .rep m, rfl, upd_same, Sm _ _ hg2', Sm _ _ ht1, okG, ⟨hm1, hm2⟩, fun g2 o H4 hg2 ho kp R4 => ⟨rfl, ?_⟩⟩
    have S4 : Same H3 H4 := fun b u e => kp b u (Sm _ _ e) (ne_of_none e hp)
    have Ra := R2'.mono Sm
    have B4 : LawAt C H4 a L g p g2 t0 o cs gs (.rep m) := by
      obtain ⟨s0, s1, s2, hsa, _⟩ := R2'.ex
      exact ⟨R4, S4 _ _ hL2', S4 _ _ hg2', nLa, nga, (R2'.new hp).symm, (Ra.new hg2).symm, ne_of ht1 hsa (by intro z; cases z), (Ra.new ho).symm⟩
    have R4s := R2'.mono S4
    clear hg ht1 nga hL2 R2 Sm hp hdx hg2 ho kp R4 S4 Ra nLa hu hg0 hg2' hL2' R2' St ht0
    -- the differences
    refine ⟨_, rfl, _, rfl, g, gs, m, rfl, B4.hg, okG, hm1, hm2, fun q5 w5 ks H5 hq50 hw50 S5 hks hkl hq5 hw5 => ?_⟩
    have B5 := B4.same S5
    have R5 := R4s.mono S5
    have nwa : w5 ≠ a := (R4s.new hw50).symm
    refine ⟨q5, _, rfl, SqT.of hq5, rfl, _, _, rfl, _, _, rfl, rfl, ?_⟩
    refine ⟨_, rfl, p, g2, t0, o, gs, m, rfl, B5.R, fun q6 ks6 H6 hq60 S6 hks6 hkl6 hq6 => ?_⟩
    have e6 := set_uniq hks6 hks
    subst e6
    have hw6 := S6 _ _ hw5
    refine ⟨_, rfl, _, rfl, _, _, list_dp (SqL.of hq6), list_dp (SqL.of hw6), PySem.W.ke_shaped_ints _, PySem.W.ke_shaped_ints _, _, rfl, iteFb (by rw [list_eqv, decide_eq_true rfl]; rfl) ?_⟩
    have R6 := (B5.same S6).R
    obtain ⟨dx, hob⟩ := R6.ob
    refine ⟨_, rfl, p, dx, _, rfl, hob, flds_no _ _ _ (by decide +kernel) (by decide +kernel) (by decide +kernel), p, g2, t0, o, gs, .rep m, rfl, R6, _, rfl, _, _, .int _, .int _, rfl, rfl, _, rfl, iteFb (by simp [PyData.eqv]) ?_⟩
    refine ⟨_, rfl, .inl ⟨rfl, _, SqL.of hq6⟩, q6, _, _, rfl, rfl, hq6, by rw [List.length_map]; exact small1000 (by omega), ?_⟩
    have S7 := same_app (o := .lst (ks6.map V.int ++ [V.non])) hq60 S6
    generalize (upd H6 q6 (.lst (ks6.map V.int ++ [V.non]))) = H7 at S7 ⊢
    have B7 := B5.same S7
    have R7 := R5.mono S7
    have hw7 := S7 _ _ hw5
    clear hob R6 hq6 hw6 S6 hkl6 hq60 hks6
    refine ⟨_, rfl, p, g2, t0, o, gs, m, rfl, B7.R, fun q8 ks8 H8 _ S8 hks8 _ hq8 => ?_⟩
    have e8 := set_uniq hks8 hks
    subst e8
    refine ⟨_, rfl, _, _, list_dp (SqL.of hq8), list_dp (SqL.of (S8 _ _ hw7)), PySem.W.ke_shaped_ints _, PySem.W.ke_shaped_ints _, _, rfl, iteFb (by rw [list_eqv, decide_eq_true rfl]; rfl) ?_⟩
    have B8 := B7.same S8
    have R8 := R7.mono S8
    have hw8 := S8 _ _ hw7
    clear hq8 S8 S7 B7 B5 hw7 hw5 R7 R5
    -- eight distances
    have hg20 := okG.1
    have hpb := per_bd okG hm1 hm2
    have kmem : ∀ v, decide (v ∈ ks8) = decide (v ∈ difs gs m) := fun v => decide_eq_decide.mpr (hks8.mem v)
    have kbd : ∀ v ∈ ks8, 0 ≤ v ∧ v < per gs m := fun v hv => by
      obtain ⟨i, j, _, _, rfl⟩ := mem_difs.mp ((hks8.mem v).mp hv)
      exact ⟨Int.emod_nonneg _ (by omega), Int.emod_lt_of_pos _ (by omega)⟩
    have z0 : (0 : Int) ∈ difs gs m := mem_difs.mpr ⟨0, 0, hm1, hm1, by rw [Int.sub_self, Int.zero_emod]⟩
    have ks0 : 0 < ks8.length := List.length_pos_of_mem ((hks8.mem 0).mpr z0)
    refine ⟨8, rfl, by decide, by decide, for_range (lo := 0) (n := 8) (fun i σ H' => (∃ v9 v10 v11, σ = [some (.ref sc), some (.int c), some (.ref a), some (.ref g), some (.int (m : Int)), some (.ref p), some (.int (per gs m)), some (.ref w5), some (.ref q6), v9, v10, v11]) ∧ LawAt C H' a L g p g2 t0 o cs gs (.rep m) ∧ Src H' a (30 + 6 * i) ∧ H' w5 = some (.lst (ks8.map V.int))) ⟨⟨_, _, _, rfl⟩, B8, R8, hw8⟩ ?_ ?_⟩
    · clear B8 R8 hw8
      rintro i σ H9 hi ⟨⟨v9, v10, v11, rfl⟩, B9, R9, hw9⟩
      refine ⟨_, rfl, _, rfl, a, w5, _, 30 + 6 * i, rfl, R9, by omega, nwa, hw9, by rw [List.length_map]; exact ks0, by rw [List.length_map]; omega, fun x H10 hx kx10 R10 => ?_⟩
      obtain ⟨d0, hd0, rfl⟩ := List.mem_map.mp hx
      have hd0b := kbd _ hd0
      have B10 := B9.kx kx10
      have hw10 := kx10 _ _ nwa hw9
      clear B9 R9 hw9 kx10 hx
      refine ⟨_, rfl, _, rfl, _, rfl, _, rfl, a, per gs m, 30 + 6 * i + 1, rfl, R10, by omega, by omega, by omega, fun r1 H11 r10 r11 kx11 R11 => ?_⟩
      refine ⟨(by show 5 ≤ sizeLine; decide), fun l3 hl3 => ?_⟩
      have S11 : Same H11 (upd H11 l3 (.lst [.int 0, .int 0, .int 1, .int (-1), .int r1])) := same_new hl3
      refine ⟨a, l3, _, 30 + 6 * i + 2, rfl, R11.mono S11, by omega, (R11.new hl3).symm, upd_same, by show 0 < 5; decide, by show 5 < 1000; decide, fun x H12 hx kx12 R12 => ?_⟩
      obtain ⟨d1, rfl, d11, d12⟩ : ∃ d1 : Int, x = .int d1 ∧ -1 ≤ d1 ∧ d1 ≤ per gs m := by
        simp only [List.mem_cons, List.not_mem_nil, or_false] at hx
        rcases hx with rfl | rfl | rfl | rfl | rfl <;> exact ⟨_, rfl, by omega, by omega⟩
      have kx12' := (kx11.trans (Kx.of S11)).trans kx12
      have B12 := B10.kx kx12'
      have hw12 := kx12' _ _ nwa hw10
      clear B10 R10 hw10 kx11 kx12 kx12' R11 S11 hx
      refine ⟨_, _, rfl, rfl, ?_⟩
      -- some periods more
      refine ⟨_, rfl, _, rfl, _, rfl, _, rfl, _, rfl, _, _, rfl, rfl, ⟨by decide, by decide, by decide⟩, a, _, 30 + 6 * i + 3, rfl, R12, by omega, by decide, by decide, fun r2 H13 r20 r21 kx13 R13 => ?_⟩
      refine ⟨(by show 4 ≤ sizeLine; decide), fun l4 hl4 => ?_⟩
      have S13 : Same H13 (upd H13 l4 (.lst [.int 0, .int 1, .int (-3), .int r2])) := same_new hl4
      refine ⟨a, l4, _, 30 + 6 * i + 4, rfl, R13.mono S13, by omega, (R13.new hl4).symm, upd_same, by show 0 < 4; decide, by show 4 < 1000; decide, fun x H14 hx kx14 R14 => ?_⟩
      obtain ⟨d2, rfl, d21, d22⟩ : ∃ d2 : Int, x = .int d2 ∧ -3 ≤ d2 ∧ d2 ≤ 10 ^ 14 := by
        have e14 : (10 : Int) ^ (14 : Int).toNat = 10 ^ 14 := by decide
        rw [e14] at r21
        simp only [List.mem_cons, List.not_mem_nil, or_false] at hx
        rcases hx with rfl | rfl | rfl | rfl <;> exact ⟨_, rfl, by omega, by omega⟩
      have kx14' := (kx13.trans (Kx.of S13)).trans kx14
      have B14 := B12.kx kx14'
      have hw14 := kx14' _ _ nwa hw12
      clear B12 R12 hw12 kx13 kx14 kx14' R13 S13 hx
      refine ⟨_, _, rfl, rfl, ?_⟩
      have hd1v : (d0 + d1) % per gs m ∈ difs gs m ↔ (d0 + d1 + per gs m * d2) % per gs m ∈ difs gs m := by rw [Int.add_mul_emod_self_left]
      refine ⟨.inl ⟨by omega, by omega⟩, _, _, rfl, rfl, ?_⟩
      have hbd2 : d0 + d1 + per gs m * d2 < 2 ^ 150 := by
        have h1 : per gs m * d2 ≤ per gs m * 10 ^ 14 := Int.mul_le_mul_of_nonneg_left (by omega) (by omega)
        omega
      refine ⟨_, rfl, .inl ⟨_, rfl, _, rfl, _, _, rfl, rfl, by omega, _, rfl, w5, ks8.map V.int, rfl, .inl (SqL.of hw14), rfl, ints_flat _, ?_⟩⟩
      rw [if_neg (by decide), inV_int, kmem]
      -- both ways
      refine ⟨_, rfl, _, rfl, p, g2, t0, o, gs, m, d0 + d1 + per gs m * d2, rfl, B14.R, fun H15 S15 => ?_⟩
      refine ⟨_, rfl, _, _, .bl _, .bl _, rfl, rfl, _, rfl, iteFb (by simp [PyData.eqv]) ?_⟩
      have B15 := B14.same S15
      have R15 := R14.mono S15
      have hw15 := S15 _ _ hw14
      clear B14 R14 hw14 S15
      refine ⟨_, rfl, _, rfl, _, _, rfl, rfl, p, g2, t0, o, gs, m, 0 - (d0 + d1 + per gs m * d2), rfl, B15.R, fun H16 S16 => ?_⟩
      rw [show decide ((0 - (d0 + d1 + per gs m * d2)) % per gs m ∈ difs gs m) = decide ((d0 + d1 + per gs m * d2) % per gs m ∈ difs gs m) from decide_eq_decide.mpr difs_neg]
      refine ⟨_, rfl, _, _, .bl _, .bl _, rfl, rfl, _, rfl, iteFb (by simp [PyData.eqv]) ?_⟩
      have B16 := B15.same S16
      have R16 := R15.mono S16
      have hw16 := S16 _ _ hw15
      clear B15 R15 hw15 S16
      -- the tuples that repeat
      by_cases hda : 0 < (d0 + d1 + per gs m * d2)
      · refine ⟨_, rfl, _, _, rfl, rfl, _, rfl, iteTb (decide_eq_true hda) ?_⟩
        refine ⟨_, rfl, _, rfl, p, g2, t0, o, gs, m, (d0 + d1 + per gs m * d2), rfl, B16.R, by omega, hbd2, fun q w1 w2 xs H17 S17 hq hw2 hxl hall hnil => ?_⟩
        refine ⟨q, _, _, _, rfl, rfl, SqT.of hq, rfl, ?_⟩
        refine ⟨(by show 0 ≤ sizeLine; decide), fun l5 hl5 => ?_⟩
        have S18 : Same H17 (upd H17 l5 (.lst [])) := same_new hl5
        have e : (!xs.isEmpty) = decide ((d0 + d1 + per gs m * d2) % per gs m ∈ difs gs m) := by
          cases xs with
          | nil =>
            have nd : ¬ (d0 + d1 + per gs m * d2) % per gs m ∈ difs gs m := fun hd => by
              obtain ⟨l, hl1, hl2, hl3⟩ := difs_hit okG hm1 hm2 (show 1 ≤ d0 + d1 + per gs m * d2 by omega) hd
              obtain ⟨e, he1, he2⟩ := hnil rfl l hl1 hl2
              exact he2 (hl3 e he1)
            exact (decide_eq_false nd).symm
          | cons x xs =>
            obtain ⟨l, e, hl1, hl2, he⟩ := hall x (List.mem_cons_self ..)
            exact (decide_eq_true (hit_difs okG hm1 hm2 (by omega) hl1 hl2 he)).symm
        refine ⟨w2, l5, xs, rfl, rfl, SqL.of (S18 _ _ hw2), SqL.of upd_same, ?_⟩
        rw [e]
        refine ⟨_, rfl, _, _, .bl _, .bl _, rfl, rfl, _, rfl, iteFb (by simp [PyData.eqv]) ?_⟩
        exact ⟨⟨_, _, _, rfl⟩, B16.same (fun _ _ h => S18 _ _ (S17 _ _ h)), (R16.mono (fun _ _ h => S18 _ _ (S17 _ _ h))).le (by omega), S18 _ _ (S17 _ _ hw16)⟩
      · refine ⟨_, rfl, _, _, rfl, rfl, _, rfl, iteFb (decide_eq_false hda) ?_⟩
        exact ⟨⟨_, _, _, rfl⟩, B16, R16.le (by omega), hw16⟩
    · rintro σ H9 ⟨⟨v9, v10, v11, rfl⟩, B9, R9, hw9⟩
      refine ⟨_, rfl, p, g2, t0, o, gs, m, 0, rfl, B9.R, fun H10 S10 => ?_⟩
      rw [Int.zero_emod, decide_eq_true z0]
      have B10 := B9.same S10
      refine ⟨_, rfl, iteFb rfl ?_⟩
      refine ⟨_, rfl, _, rfl, p, g2, t0, o, gs, m, per gs m, rfl, B10.R, fun H11 S11 => ?_⟩
      rw [Int.emod_self, decide_eq_true z0]
      refine ⟨_, rfl, iteFb rfl ?_⟩
      exact ⟨⟨_, _, _, _, _, _, _, _, _, _, _, rfl⟩, (B10.same S11).hL⟩
end
end RS
namespace RS
open PySem L2
/-! ### what the top has written -/
theorem all_mk {l : PySem.W.OpenLaw} {w : World} {K : PySem.W.Frag} {h : Heap} {mg : Str → Option Value} {fa : Addr}  (X : K.In h) (G : h.Ns mainGlobals mg) (hfa : mg "law" = some (.ref fa)) (hlong : ∃ t, mg "_LONGEST_GAP" = some (.int 1000000000000 t))
    {fa0 : Addr} {oda0 ana0 : Option Addr} {sla0 : Array (Option Value)} {oca0 kVa0 dca0 pma0 cta0 : Value}
    {cda0 : Value}
    {fa1 : Addr} {oda1 ana1 : Option Addr} {sla1 : Array (Option Value)} {oca1 kVa1 dca1 pma1 cta1 : Value}
    {cda1 : Value}
    {fa2 : Addr} {oda2 ana2 : Option Addr} {sla2 : Array (Option Value)} {oca2 kVa2 dca2 pma2 cta2 : Value}
    {cda2 : Value}
    {fa3 : Addr} {oda3 ana3 : Option Addr} {sla3 : Array (Option Value)} {oca3 kVa3 dca3 pma3 cta3 : Value}
    {cda3 : Value}
    {fa4 : Addr} {oda4 ana4 : Option Addr} {sla4 : Array (Option Value)} {oca4 kVa4 dca4 pma4 cta4 : Value}
    {cda4 : Value}
    {fa5 : Addr} {oda5 ana5 : Option Addr} {sla5 : Array (Option Value)} {oca5 kVa5 dca5 pma5 cta5 : Value}
    {cda5 : Value}
    {fr6 : Addr} {odr6 anr6 : Option Addr} {slr6 : Array (Option Value)} {ocr6 kVr6 dcr6 pmr6 ctr6 : Value}
    {cdr6 : Value}
    {fr8 : Addr} {odr8 anr8 : Option Addr} {slr8 : Array (Option Value)} {ocr8 kVr8 dcr8 pmr8 ctr8 : Value}
    {cdr8 : Value}
    {fr9 : Addr} {odr9 anr9 : Option Addr} {slr9 : Array (Option Value)} {ocr9 kVr9 dcr9 pmr9 ctr9 : Value}
    {cdr9 : Value}
    {fr10 : Addr} {odr10 anr10 : Option Addr} {slr10 : Array (Option Value)} {ocr10 kVr10 dcr10 pmr10 ctr10 : Value}
    {cdr10 : Value}
    {fa12 : Addr} {oda12 ana12 : Option Addr} {sla12 : Array (Option Value)} {oca12 kVa12 dca12 pma12 cta12 : Value}
    {cda12 : Value}
    {fa13 : Addr} {oda13 ana13 : Option Addr} {sla13 : Array (Option Value)} {oca13 kVa13 dca13 pma13 cta13 : Value}
    {cda13 : Value}
    {fa14 : Addr} {oda14 ana14 : Option Addr} {sla14 : Array (Option Value)} {oca14 kVa14 dca14 pma14 cta14 : Value}
    {cda14 : Value}
    {fa15 : Addr} {oda15 ana15 : Option Addr} {sla15 : Array (Option Value)} {oca15 kVa15 dca15 pma15 cta15 : Value}
    {cda15 : Value}
    {fa16 : Addr} {oda16 ana16 : Option Addr} {sla16 : Array (Option Value)} {oca16 kVa16 dca16 pma16 cta16 : Value}
    {cda16 : Value}
    {fa17 : Addr} {oda17 ana17 : Option Addr} {sla17 : Array (Option Value)} {oca17 kVa17 dca17 pma17 cta17 : Value}
    {cda17 : Value}
    {fa18 : Addr} {oda18 ana18 : Option Addr} {sla18 : Array (Option Value)} {oca18 kVa18 dca18 pma18 cta18 : Value}
    {cda18 : Value}
    {fa19 : Addr} {oda19 ana19 : Option Addr} {sla19 : Array (Option Value)} {oca19 kVa19 dca19 pma19 cta19 : Value}
    {cda19 : Value}
    {fa20 : Addr} {oda20 ana20 : Option Addr} {sla20 : Array (Option Value)} {oca20 kVa20 dca20 pma20 cta20 : Value}
    {cda20 : Value}
    {fa21 : Addr} {oda21 ana21 : Option Addr} {sla21 : Array (Option Value)} {oca21 kVa21 dca21 pma21 cta21 : Value}
    {cda21 : Value}
    {fa22 : Addr} {oda22 ana22 : Option Addr} {sla22 : Array (Option Value)} {oca22 kVa22 dca22 pma22 cta22 : Value}
    {cda22 : Value}
    {fa23 : Addr} {oda23 ana23 : Option Addr} {sla23 : Array (Option Value)} {oca23 kVa23 dca23 pma23 cta23 : Value}
    {cda23 : Value}
    {fa24 : Addr} {oda24 ana24 : Option Addr} {sla24 : Array (Option Value)} {oca24 kVa24 dca24 pma24 cta24 : Value}
    {cda24 : Value}
    {fa25 : Addr} {oda25 ana25 : Option Addr} {sla25 : Array (Option Value)} {oca25 kVa25 dca25 pma25 cta25 : Value}
    {cda25 : Value}
    {fr26 : Addr} {odr26 anr26 : Option Addr} {slr26 : Array (Option Value)} {ocr26 kVr26 dcr26 pmr26 ctr26 : Value}
    {cdr26 : Value}
    {fr27 : Addr} {odr27 anr27 : Option Addr} {slr27 : Array (Option Value)} {ocr27 kVr27 dcr27 pmr27 ctr27 : Value}
    {cdr27 : Value}
    {fr28 : Addr} {odr28 anr28 : Option Addr} {slr28 : Array (Option Value)} {ocr28 kVr28 dcr28 pmr28 ctr28 : Value}
    {cdr28 : Value}
    {fa30 : Addr} {oda30 ana30 : Option Addr} {sla30 : Array (Option Value)} {oca30 kVa30 dca30 pma30 cta30 : Value}
    {cda30 : Value}
    {fr31 : Addr} {odr31 anr31 : Option Addr} {slr31 : Array (Option Value)} {ocr31 kVr31 dcr31 pmr31 ctr31 : Value}
    {cdr31 : Value}
    {fr32 : Addr} {odr32 anr32 : Option Addr} {slr32 : Array (Option Value)} {ocr32 kVr32 dcr32 pmr32 ctr32 : Value}
    {cdr32 : Value}
    {fr33 : Addr} {odr33 anr33 : Option Addr} {slr33 : Array (Option Value)} {ocr33 kVr33 dcr33 pmr33 ctr33 : Value}
    {cdr33 : Value}
    {fr34 : Addr} {odr34 anr34 : Option Addr} {slr34 : Array (Option Value)} {ocr34 kVr34 dcr34 pmr34 ctr34 : Value}
    {cdr34 : Value}
    {fa35 : Addr} {oda35 ana35 : Option Addr} {sla35 : Array (Option Value)} {oca35 kVa35 dca35 pma35 cta35 : Value}
    {cda35 : Value}
    {fa36 : Addr} {oda36 ana36 : Option Addr} {sla36 : Array (Option Value)} {oca36 kVa36 dca36 pma36 cta36 : Value}
    {cda36 : Value}
    {fa37 : Addr} {oda37 ana37 : Option Addr} {sla37 : Array (Option Value)} {oca37 kVa37 dca37 pma37 cta37 : Value}
    {cda37 : Value}
    {fa38 : Addr} {oda38 ana38 : Option Addr} {sla38 : Array (Option Value)} {oca38 kVa38 dca38 pma38 cta38 : Value}
    {cda38 : Value}
    {C : Addr}
    {tM : Tok}
    {tF : Tok}
    {tL : Tok}
    (Aa0 : PySem.W.nsIn K mainGlobals "law" = some (some (.ref fa0)))
    (La0 : K.lookup fa0 = some ⟨oca0, oda0, .func (PySem.W.fnOf "law" "law" (defArgs s_law) (defBody s_law) (defScope s_law) .none kVa0 dca0 pma0 ana0 cda0 cta0), sla0⟩) (Ca0 : PySem.W.codeIn K cda0 "law" = true) (Ka0 : PySem.W.keepIn K (.ref fa0) = true)
    (Aa1 : PySem.W.nsIn K mainGlobals "is_integer" = some (some (.ref fa1)))
    (La1 : K.lookup fa1 = some ⟨oca1, oda1, .func (PySem.W.fnOf "is_integer" "is_integer" (defArgs s_is_integer) (defBody s_is_integer) (defScope s_is_integer) .none kVa1 dca1 pma1 ana1 cda1 cta1), sla1⟩) (Ca1 : PySem.W.codeIn K cda1 "is_integer" = true) (Ka1 : PySem.W.keepIn K (.ref fa1) = true)
    (Aa2 : PySem.W.nsIn K mainGlobals "are_gaps" = some (some (.ref fa2)))
    (La2 : K.lookup fa2 = some ⟨oca2, oda2, .func (PySem.W.fnOf "are_gaps" "are_gaps" (defArgs s_are_gaps) (defBody s_are_gaps) (defScope s_are_gaps) .none kVa2 dca2 pma2 ana2 cda2 cta2), sla2⟩) (Ca2 : PySem.W.codeIn K cda2 "are_gaps" = true) (Ka2 : PySem.W.keepIn K (.ref fa2) = true)
    (Aa3 : PySem.W.nsIn K mainGlobals "_is_tail" = some (some (.ref fa3)))
    (La3 : K.lookup fa3 = some ⟨oca3, oda3, .func (PySem.W.fnOf "_is_tail" "_is_tail" (defArgs s_is_tail) (defBody s_is_tail) (defScope s_is_tail) .none kVa3 dca3 pma3 ana3 cda3 cta3), sla3⟩) (Ca3 : PySem.W.codeIn K cda3 "_is_tail" = true) (Ka3 : PySem.W.keepIn K (.ref fa3) = true)
    (Aa4 : PySem.W.nsIn K mainGlobals "sums" = some (some (.ref fa4)))
    (La4 : K.lookup fa4 = some ⟨oca4, oda4, .func (PySem.W.fnOf "sums" "sums" (defArgs s_sums) (defBody s_sums) (defScope s_sums) .none kVa4 dca4 pma4 ana4 cda4 cta4), sla4⟩) (Ca4 : PySem.W.codeIn K cda4 "sums" = true) (Ka4 : PySem.W.keepIn K (.ref fa4) = true)
    (Aa5 : PySem.W.nsIn K mainGlobals "_power" = some (some (.ref fa5)))
    (La5 : K.lookup fa5 = some ⟨oca5, oda5, .func (PySem.W.fnOf "_power" "_power" (defArgs s_power) (defBody s_power) (defScope s_power) .none kVa5 dca5 pma5 ana5 cda5 cta5), sla5⟩) (Ca5 : PySem.W.codeIn K cda5 "_power" = true) (Ka5 : PySem.W.keepIn K (.ref fa5) = true)
    (Ar6 : PySem.W.findIn K (.ref C) "__init__" = some (some (.ref fr6))) (Ir6 : PySem.W.isFn K (.ref fr6) = true)
    (Lr6 : K.lookup fr6 = some ⟨ocr6, odr6, .func (PySem.W.fnOf "__init__" "Rule.__init__" (defArgs s_Rule_ddinitdd) (defBody s_Rule_ddinitdd) (defScope s_Rule_ddinitdd) .none kVr6 dcr6 pmr6 anr6 cdr6 ctr6), slr6⟩) (Cr6 : PySem.W.codeIn K cdr6 "Rule.__init__" = true) (Kr6 : PySem.W.keepIn K (.ref fr6) = true)
    (Ar8 : PySem.W.findIn K (.ref C) "first_repeating" = some (some (.ref fr8))) (Ir8 : PySem.W.isFn K (.ref fr8) = true)
    (Lr8 : K.lookup fr8 = some ⟨ocr8, odr8, .func (PySem.W.fnOf "first_repeating" "Rule.first_repeating" (defArgs s_Rule_first_repeating) (defBody s_Rule_first_repeating) (defScope s_Rule_first_repeating) .none kVr8 dcr8 pmr8 anr8 cdr8 ctr8), slr8⟩) (Cr8 : PySem.W.codeIn K cdr8 "Rule.first_repeating" = true) (Kr8 : PySem.W.keepIn K (.ref fr8) = true)
    (Ar9 : PySem.W.findIn K (.ref C) "period" = some (some (.ref fr9))) (Ir9 : PySem.W.isFn K (.ref fr9) = true)
    (Lr9 : K.lookup fr9 = some ⟨ocr9, odr9, .func (PySem.W.fnOf "period" "Rule.period" (defArgs s_Rule_period) (defBody s_Rule_period) (defScope s_Rule_period) .none kVr9 dcr9 pmr9 anr9 cdr9 ctr9), slr9⟩) (Cr9 : PySem.W.codeIn K cdr9 "Rule.period" = true) (Kr9 : PySem.W.keepIn K (.ref fr9) = true)
    (Ar10 : PySem.W.findIn K (.ref C) "gaps" = some (some (.ref fr10))) (Ir10 : PySem.W.isFn K (.ref fr10) = true)
    (Lr10 : K.lookup fr10 = some ⟨ocr10, odr10, .func (PySem.W.fnOf "gaps" "Rule.gaps" (defArgs s_Rule_gaps) (defBody s_Rule_gaps) (defScope s_Rule_gaps) .none kVr10 dcr10 pmr10 anr10 cdr10 ctr10), slr10⟩) (Cr10 : PySem.W.codeIn K cdr10 "Rule.gaps" = true) (Kr10 : PySem.W.keepIn K (.ref fr10) = true)
    (Aa12 : PySem.W.nsIn K mainGlobals "_law_source_of" = some (some (.ref fa12)))
    (La12 : K.lookup fa12 = some ⟨oca12, oda12, .func (PySem.W.fnOf "_law_source_of" "_law_source_of" (defArgs s_law_source_of) (defBody s_law_source_of) (defScope s_law_source_of) .none kVa12 dca12 pma12 ana12 cda12 cta12), sla12⟩) (Ca12 : PySem.W.codeIn K cda12 "_law_source_of" = true) (Ka12 : PySem.W.keepIn K (.ref fa12) = true)
    (Aa13 : PySem.W.nsIn K mainGlobals "_law_draw" = some (some (.ref fa13)))
    (La13 : K.lookup fa13 = some ⟨oca13, oda13, .func (PySem.W.fnOf "_law_draw" "_law_draw" (defArgs s_law_draw) (defBody s_law_draw) (defScope s_law_draw) .none kVa13 dca13 pma13 ana13 cda13 cta13), sla13⟩) (Ca13 : PySem.W.codeIn K cda13 "_law_draw" = true) (Ka13 : PySem.W.keepIn K (.ref fa13) = true)
    (Aa14 : PySem.W.nsIn K mainGlobals "_law_choice" = some (some (.ref fa14)))
    (La14 : K.lookup fa14 = some ⟨oca14, oda14, .func (PySem.W.fnOf "_law_choice" "_law_choice" (defArgs s_law_choice) (defBody s_law_choice) (defScope s_law_choice) .none kVa14 dca14 pma14 ana14 cda14 cta14), sla14⟩) (Ca14 : PySem.W.codeIn K cda14 "_law_choice" = true) (Ka14 : PySem.W.keepIn K (.ref fa14) = true)
    (Aa15 : PySem.W.nsIn K mainGlobals "_law_cell_at" = some (some (.ref fa15)))
    (La15 : K.lookup fa15 = some ⟨oca15, oda15, .func (PySem.W.fnOf "_law_cell_at" "_law_cell_at" (defArgs s_law_cell_at) (defBody s_law_cell_at) (defScope s_law_cell_at) .none kVa15 dca15 pma15 ana15 cda15 cta15), sla15⟩) (Ca15 : PySem.W.codeIn K cda15 "_law_cell_at" = true) (Ka15 : PySem.W.keepIn K (.ref fa15) = true)
    (Aa16 : PySem.W.nsIn K mainGlobals "listed_offsets" = some (some (.ref fa16)))
    (La16 : K.lookup fa16 = some ⟨oca16, oda16, .func (PySem.W.fnOf "listed_offsets" "listed_offsets" (defArgs s_listed_offsets) (defBody s_listed_offsets) (defScope s_listed_offsets) .none kVa16 dca16 pma16 ana16 cda16 cta16), sla16⟩) (Ca16 : PySem.W.codeIn K cda16 "listed_offsets" = true) (Ka16 : PySem.W.keepIn K (.ref fa16) = true)
    (Aa17 : PySem.W.nsIn K mainGlobals "repeating_offsets" = some (some (.ref fa17)))
    (La17 : K.lookup fa17 = some ⟨oca17, oda17, .func (PySem.W.fnOf "repeating_offsets" "repeating_offsets" (defArgs s_repeating_offsets) (defBody s_repeating_offsets) (defScope s_repeating_offsets) .none kVa17 dca17 pma17 ana17 cda17 cta17), sla17⟩) (Ca17 : PySem.W.codeIn K cda17 "repeating_offsets" = true) (Ka17 : PySem.W.keepIn K (.ref fa17) = true)
    (Aa18 : PySem.W.nsIn K mainGlobals "_residues" = some (some (.ref fa18)))
    (La18 : K.lookup fa18 = some ⟨oca18, oda18, .func (PySem.W.fnOf "_residues" "_residues" (defArgs s_residues) (defBody s_residues) (defScope s_residues) .none kVa18 dca18 pma18 ana18 cda18 cta18), sla18⟩) (Ca18 : PySem.W.codeIn K cda18 "_residues" = true) (Ka18 : PySem.W.keepIn K (.ref fa18) = true)
    (Aa19 : PySem.W.nsIn K mainGlobals "_check_repeating" = some (some (.ref fa19)))
    (La19 : K.lookup fa19 = some ⟨oca19, oda19, .func (PySem.W.fnOf "_check_repeating" "_check_repeating" (defArgs s_check_repeating) (defBody s_check_repeating) (defScope s_check_repeating) .none kVa19 dca19 pma19 ana19 cda19 cta19), sla19⟩) (Ca19 : PySem.W.codeIn K cda19 "_check_repeating" = true) (Ka19 : PySem.W.keepIn K (.ref fa19) = true)
    (Aa20 : PySem.W.nsIn K mainGlobals "loop_distances" = some (some (.ref fa20)))
    (La20 : K.lookup fa20 = some ⟨oca20, oda20, .func (PySem.W.fnOf "loop_distances" "loop_distances" (defArgs s_loop_distances) (defBody s_loop_distances) (defScope s_loop_distances) .none kVa20 dca20 pma20 ana20 cda20 cta20), sla20⟩) (Ca20 : PySem.W.codeIn K cda20 "loop_distances" = true) (Ka20 : PySem.W.keepIn K (.ref fa20) = true)
    (Aa21 : PySem.W.nsIn K mainGlobals "check_slot" = some (some (.ref fa21)))
    (La21 : K.lookup fa21 = some ⟨oca21, oda21, .func (PySem.W.fnOf "check_slot" "check_slot" (defArgs s_check_slot) (defBody s_check_slot) (defScope s_check_slot) .none kVa21 dca21 pma21 ana21 cda21 cta21), sla21⟩) (Ca21 : PySem.W.codeIn K cda21 "check_slot" = true) (Ka21 : PySem.W.keepIn K (.ref fa21) = true)
    (Aa22 : PySem.W.nsIn K mainGlobals "meets_forever" = some (some (.ref fa22)))
    (La22 : K.lookup fa22 = some ⟨oca22, oda22, .func (PySem.W.fnOf "meets_forever" "meets_forever" (defArgs s_meets_forever) (defBody s_meets_forever) (defScope s_meets_forever) .none kVa22 dca22 pma22 ana22 cda22 cta22), sla22⟩) (Ca22 : PySem.W.codeIn K cda22 "meets_forever" = true) (Ka22 : PySem.W.keepIn K (.ref fa22) = true)
    (Aa23 : PySem.W.nsIn K mainGlobals "_law_repeating" = some (some (.ref fa23)))
    (La23 : K.lookup fa23 = some ⟨oca23, oda23, .func (PySem.W.fnOf "_law_repeating" "_law_repeating" (defArgs s_law_repeating) (defBody s_law_repeating) (defScope s_law_repeating) .none kVa23 dca23 pma23 ana23 cda23 cta23), sla23⟩) (Ca23 : PySem.W.codeIn K cda23 "_law_repeating" = true) (Ka23 : PySem.W.keepIn K (.ref fa23) = true)
    (Aa24 : PySem.W.nsIn K mainGlobals "_law_residues" = some (some (.ref fa24)))
    (La24 : K.lookup fa24 = some ⟨oca24, oda24, .func (PySem.W.fnOf "_law_residues" "_law_residues" (defArgs s_law_residues) (defBody s_law_residues) (defScope s_law_residues) .none kVa24 dca24 pma24 ana24 cda24 cta24), sla24⟩) (Ca24 : PySem.W.codeIn K cda24 "_law_residues" = true) (Ka24 : PySem.W.keepIn K (.ref fa24) = true)
    (Aa25 : PySem.W.nsIn K mainGlobals "_law_due" = some (some (.ref fa25)))
    (La25 : K.lookup fa25 = some ⟨oca25, oda25, .func (PySem.W.fnOf "_law_due" "_law_due" (defArgs s_law_due) (defBody s_law_due) (defScope s_law_due) .none kVa25 dca25 pma25 ana25 cda25 cta25), sla25⟩) (Ca25 : PySem.W.codeIn K cda25 "_law_due" = true) (Ka25 : PySem.W.keepIn K (.ref fa25) = true)
    (Ar26 : PySem.W.findIn K (.ref C) "_check_attempt" = some (some (.ref fr26))) (Ir26 : PySem.W.isFn K (.ref fr26) = true)
    (Lr26 : K.lookup fr26 = some ⟨ocr26, odr26, .func (PySem.W.fnOf "_check_attempt" "Rule._check_attempt" (defArgs s_Rule_check_attempt) (defBody s_Rule_check_attempt) (defScope s_Rule_check_attempt) .none kVr26 dcr26 pmr26 anr26 cdr26 ctr26), slr26⟩) (Cr26 : PySem.W.codeIn K cdr26 "Rule._check_attempt" = true) (Kr26 : PySem.W.keepIn K (.ref fr26) = true)
    (Ar27 : PySem.W.findIn K (.ref C) "_offset_of" = some (some (.ref fr27))) (Ir27 : PySem.W.isFn K (.ref fr27) = true)
    (Lr27 : K.lookup fr27 = some ⟨ocr27, odr27, .func (PySem.W.fnOf "_offset_of" "Rule._offset_of" (defArgs s_Rule_offset_of) (defBody s_Rule_offset_of) (defScope s_Rule_offset_of) .none kVr27 dcr27 pmr27 anr27 cdr27 ctr27), slr27⟩) (Cr27 : PySem.W.codeIn K cdr27 "Rule._offset_of" = true) (Kr27 : PySem.W.keepIn K (.ref fr27) = true)
    (Ar28 : PySem.W.findIn K (.ref C) "offset" = some (some (.ref fr28))) (Ir28 : PySem.W.isFn K (.ref fr28) = true)
    (Lr28 : K.lookup fr28 = some ⟨ocr28, odr28, .func (PySem.W.fnOf "offset" "Rule.offset" (defArgs s_Rule_offset) (defBody s_Rule_offset) (defScope s_Rule_offset) .none kVr28 dcr28 pmr28 anr28 cdr28 ctr28), slr28⟩) (Cr28 : PySem.W.codeIn K cdr28 "Rule.offset" = true) (Kr28 : PySem.W.keepIn K (.ref fr28) = true)
    (Aa30 : PySem.W.nsIn K mainGlobals "_first_at_least" = some (some (.ref fa30)))
    (La30 : K.lookup fa30 = some ⟨oca30, oda30, .func (PySem.W.fnOf "_first_at_least" "_first_at_least" (defArgs s_first_at_least) (defBody s_first_at_least) (defScope s_first_at_least) .none kVa30 dca30 pma30 ana30 cda30 cta30), sla30⟩) (Ca30 : PySem.W.codeIn K cda30 "_first_at_least" = true) (Ka30 : PySem.W.keepIn K (.ref fa30) = true)
    (Ar31 : PySem.W.findIn K (.ref C) "_surely_short" = some (some (.ref fr31))) (Ir31 : PySem.W.isFn K (.ref fr31) = true)
    (Lr31 : K.lookup fr31 = some ⟨ocr31, odr31, .func (PySem.W.fnOf "_surely_short" "Rule._surely_short" (defArgs s_Rule_surely_short) (defBody s_Rule_surely_short) (defScope s_Rule_surely_short) .none kVr31 dcr31 pmr31 anr31 cdr31 ctr31), slr31⟩) (Cr31 : PySem.W.codeIn K cdr31 "Rule._surely_short" = true) (Kr31 : PySem.W.keepIn K (.ref fr31) = true)
    (Ar32 : PySem.W.findIn K (.ref C) "_first_growing" = some (some (.ref fr32))) (Ir32 : PySem.W.isFn K (.ref fr32) = true)
    (Lr32 : K.lookup fr32 = some ⟨ocr32, odr32, .func (PySem.W.fnOf "_first_growing" "Rule._first_growing" (defArgs s_Rule_first_growing) (defBody s_Rule_first_growing) (defScope s_Rule_first_growing) .none kVr32 dcr32 pmr32 anr32 cdr32 ctr32), slr32⟩) (Cr32 : PySem.W.codeIn K cdr32 "Rule._first_growing" = true) (Kr32 : PySem.W.keepIn K (.ref fr32) = true)
    (Ar33 : PySem.W.findIn K (.ref C) "_first_repeated" = some (some (.ref fr33))) (Ir33 : PySem.W.isFn K (.ref fr33) = true)
    (Lr33 : K.lookup fr33 = some ⟨ocr33, odr33, .func (PySem.W.fnOf "_first_repeated" "Rule._first_repeated" (defArgs s_Rule_first_repeated) (defBody s_Rule_first_repeated) (defScope s_Rule_first_repeated) .none kVr33 dcr33 pmr33 anr33 cdr33 ctr33), slr33⟩) (Cr33 : PySem.W.codeIn K cdr33 "Rule._first_repeated" = true) (Kr33 : PySem.W.keepIn K (.ref fr33) = true)
    (Ar34 : PySem.W.findIn K (.ref C) "first_from" = some (some (.ref fr34))) (Ir34 : PySem.W.isFn K (.ref fr34) = true)
    (Lr34 : K.lookup fr34 = some ⟨ocr34, odr34, .func (PySem.W.fnOf "first_from" "Rule.first_from" (defArgs s_Rule_first_from) (defBody s_Rule_first_from) (defScope s_Rule_first_from) .none kVr34 dcr34 pmr34 anr34 cdr34 ctr34), slr34⟩) (Cr34 : PySem.W.codeIn K cdr34 "Rule.first_from" = true) (Kr34 : PySem.W.keepIn K (.ref fr34) = true)
    (Aa35 : PySem.W.nsIn K mainGlobals "_check_distance" = some (some (.ref fa35)))
    (La35 : K.lookup fa35 = some ⟨oca35, oda35, .func (PySem.W.fnOf "_check_distance" "_check_distance" (defArgs s_check_distance) (defBody s_check_distance) (defScope s_check_distance) .none kVa35 dca35 pma35 ana35 cda35 cta35), sla35⟩) (Ca35 : PySem.W.codeIn K cda35 "_check_distance" = true) (Ka35 : PySem.W.keepIn K (.ref fa35) = true)
    (Aa36 : PySem.W.nsIn K mainGlobals "_reaching_repeated" = some (some (.ref fa36)))
    (La36 : K.lookup fa36 = some ⟨oca36, oda36, .func (PySem.W.fnOf "_reaching_repeated" "_reaching_repeated" (defArgs s_reaching_repeated) (defBody s_reaching_repeated) (defScope s_reaching_repeated) .none kVa36 dca36 pma36 ana36 cda36 cta36), sla36⟩) (Ca36 : PySem.W.codeIn K cda36 "_reaching_repeated" = true) (Ka36 : PySem.W.keepIn K (.ref fa36) = true)
    (Aa37 : PySem.W.nsIn K mainGlobals "_reaching" = some (some (.ref fa37)))
    (La37 : K.lookup fa37 = some ⟨oca37, oda37, .func (PySem.W.fnOf "_reaching" "_reaching" (defArgs s_reaching) (defBody s_reaching) (defScope s_reaching) .none kVa37 dca37 pma37 ana37 cda37 cta37), sla37⟩) (Ca37 : PySem.W.codeIn K cda37 "_reaching" = true) (Ka37 : PySem.W.keepIn K (.ref fa37) = true)
    (Aa38 : PySem.W.nsIn K mainGlobals "shared_attempts" = some (some (.ref fa38)))
    (La38 : K.lookup fa38 = some ⟨oca38, oda38, .func (PySem.W.fnOf "shared_attempts" "shared_attempts" (defArgs s_shared_attempts) (defBody s_shared_attempts) (defScope s_shared_attempts) .none kVa38 dca38 pma38 ana38 cda38 cta38), sla38⟩) (Ca38 : PySem.W.codeIn K cda38 "shared_attempts" = true) (Ka38 : PySem.W.keepIn K (.ref fa38) = true)
    (aC : PySem.W.nsIn K mainGlobals "Rule" = some (some (.ref C)))
    (pg : PySem.W.plainGet K C Str.empty = true)
    (hd : PySem.W.hasDictIn K C = true)
    (po : PySem.W.plainOver K C = true)
    (sa : PySem.W.findIn K (.ref C) "__setattr__" = some (some (.builtin "object.__setattr__")))
    (mk : PySem.W.makesIn K C = true)
    (kc : PySem.W.keepIn K (.ref C) = true)
    (n0 : PySem.W.findIn K (.ref C) "_gaps" = some none)
    (n1 : PySem.W.findIn K (.ref C) "_tail" = some none)
    (n2 : PySem.W.findIn K (.ref C) "_offsets" = some none)
    (z_len : PySem.W.nsIn K mainGlobals "len" = some none)
    (z_isinstance : PySem.W.nsIn K mainGlobals "isinstance" = some none)
    (z_int : PySem.W.nsIn K mainGlobals "int" = some none)
    (z_bool : PySem.W.nsIn K mainGlobals "bool" = some none)
    (z_list : PySem.W.nsIn K mainGlobals "list" = some none)
    (z_tuple : PySem.W.nsIn K mainGlobals "tuple" = some none)
    (z_str : PySem.W.nsIn K mainGlobals "str" = some none)
    (z_all : PySem.W.nsIn K mainGlobals "all" = some none)
    (z_range : PySem.W.nsIn K mainGlobals "range" = some none)
    (z_divmod : PySem.W.nsIn K mainGlobals "divmod" = some none)
    (z_sum : PySem.W.nsIn K mainGlobals "sum" = some none)
    (z_max : PySem.W.nsIn K mainGlobals "max" = some none)
    (z_min : PySem.W.nsIn K mainGlobals "min" = some none)
    (z_sorted : PySem.W.nsIn K mainGlobals "sorted" = some none)
    (z_set : PySem.W.nsIn K mainGlobals "set" = some none)
    (z_any : PySem.W.nsIn K mainGlobals "any" = some none)
    (z_enumerate : PySem.W.nsIn K mainGlobals "enumerate" = some none)
    (c_tM : PySem.W.nsIn K mainGlobals "_MOST_GAPS" = some (some (.int 20 tM)))
    (c_tF : PySem.W.nsIn K mainGlobals "_GREATEST_FACTOR" = some (some (.int 1000 tF)))
    (c_tL : PySem.W.nsIn K mainGlobals "LAST_GROWING" = some (some (.int 1000 tL))) :
    ∃ fd : FuncData, (∀ (s : Shared) (v : Value), BindsTo s fd ⟨[v], []⟩ [("_law_script", v)]) ∧ ∀ base : Heap, K.In base → base.Ns mainGlobals mg → FnOk l.prog w K mg base CX0 9 fa fd ["_law_script"] (spLaw K) := by
  have e := hfa.symm.trans (PySem.W.mg_of X G Aa0)
  cases e
  have T : Txt K mg C := ⟨⟨pg, hd, po, sa⟩, n0, n1, n2, PySem.W.mg_of X G aC, PySem.W.mg_none_of X G z_len, PySem.W.mg_none_of X G z_isinstance, PySem.W.mg_none_of X G z_int, PySem.W.mg_none_of X G z_bool, PySem.W.mg_none_of X G z_list, PySem.W.mg_none_of X G z_tuple, PySem.W.mg_none_of X G z_str, PySem.W.mg_none_of X G z_all, PySem.W.mg_none_of X G z_range, PySem.W.mg_none_of X G z_divmod, PySem.W.mg_none_of X G z_sum, PySem.W.mg_none_of X G z_max, PySem.W.mg_none_of X G z_min, PySem.W.mg_none_of X G z_sorted, PySem.W.mg_none_of X G z_set, PySem.W.mg_none_of X G z_any, PySem.W.mg_none_of X G z_enumerate, ⟨tM, PySem.W.mg_of X G c_tM⟩, hlong, ⟨tF, PySem.W.mg_of X G c_tF⟩, ⟨tL, PySem.W.mg_of X G c_tL⟩⟩
  have M : Mk K C fr6 := ⟨mk, Ar6, Ir6, kc⟩
  have Fa0 := fun_mk (st := s_law) La0 Ca0 Ka0
  have Fa1 := fun_mk (st := s_is_integer) La1 Ca1 Ka1
  have Fa2 := fun_mk (st := s_are_gaps) La2 Ca2 Ka2
  have Fa3 := fun_mk (st := s_is_tail) La3 Ca3 Ka3
  have Fa4 := fun_mk (st := s_sums) La4 Ca4 Ka4
  have Fa5 := fun_mk (st := s_power) La5 Ca5 Ka5
  have Fr6 := fun_mk (st := s_Rule_ddinitdd) Lr6 Cr6 Kr6
  have Fr8 := fun_mk (st := s_Rule_first_repeating) Lr8 Cr8 Kr8
  have Fr9 := fun_mk (st := s_Rule_period) Lr9 Cr9 Kr9
  have Fr10 := fun_mk (st := s_Rule_gaps) Lr10 Cr10 Kr10
  have Fa12 := fun_mk (st := s_law_source_of) La12 Ca12 Ka12
  have Fa13 := fun_mk (st := s_law_draw) La13 Ca13 Ka13
  have Fa14 := fun_mk (st := s_law_choice) La14 Ca14 Ka14
  have Fa15 := fun_mk (st := s_law_cell_at) La15 Ca15 Ka15
  have Fa16 := fun_mk (st := s_listed_offsets) La16 Ca16 Ka16
  have Fa17 := fun_mk (st := s_repeating_offsets) La17 Ca17 Ka17
  have Fa18 := fun_mk (st := s_residues) La18 Ca18 Ka18
  have Fa19 := fun_mk (st := s_check_repeating) La19 Ca19 Ka19
  have Fa20 := fun_mk (st := s_loop_distances) La20 Ca20 Ka20
  have Fa21 := fun_mk (st := s_check_slot) La21 Ca21 Ka21
  have Fa22 := fun_mk (st := s_meets_forever) La22 Ca22 Ka22
  have Fa23 := fun_mk (st := s_law_repeating) La23 Ca23 Ka23
  have Fa24 := fun_mk (st := s_law_residues) La24 Ca24 Ka24
  have Fa25 := fun_mk (st := s_law_due) La25 Ca25 Ka25
  have Fr26 := fun_mk (st := s_Rule_check_attempt) Lr26 Cr26 Kr26
  have Fr27 := fun_mk (st := s_Rule_offset_of) Lr27 Cr27 Kr27
  have Fr28 := fun_mk (st := s_Rule_offset) Lr28 Cr28 Kr28
  have Fa30 := fun_mk (st := s_first_at_least) La30 Ca30 Ka30
  have Fr31 := fun_mk (st := s_Rule_surely_short) Lr31 Cr31 Kr31
  have Fr32 := fun_mk (st := s_Rule_first_growing) Lr32 Cr32 Kr32
  have Fr33 := fun_mk (st := s_Rule_first_repeated) Lr33 Cr33 Kr33
  have Fr34 := fun_mk (st := s_Rule_first_from) Lr34 Cr34 Kr34
  have Fa35 := fun_mk (st := s_check_distance) La35 Ca35 Ka35
  have Fa36 := fun_mk (st := s_reaching_repeated) La36 Ca36 Ka36
  have Fa37 := fun_mk (st := s_reaching) La37 Ca37 Ka37
  have Fa38 := fun_mk (st := s_shared_attempts) La38 Ca38 Ka38
  have ba1 := Fa1.binds (ps := ["value"]) fun _ _ _ _ _ _ us hl => match us, hl with | [_], _ => rfl
  have ga1 := PySem.W.mg_of X G Aa1
  have ba2 := Fa2.binds (ps := ["value", "most"]) fun _ _ _ _ _ _ us hl => match us, hl with | [_, _], _ => rfl
  have ga2 := PySem.W.mg_of X G Aa2
  have ba3 := Fa3.binds (ps := ["value", "many"]) fun _ _ _ _ _ _ us hl => match us, hl with | [_, _], _ => rfl
  have ga3 := PySem.W.mg_of X G Aa3
  have ba4 := Fa4.binds (ps := ["gaps"]) fun _ _ _ _ _ _ us hl => match us, hl with | [_], _ => rfl
  have ga4 := PySem.W.mg_of X G Aa4
  have ba5 := Fa5.binds (ps := ["base", "exponent"]) fun _ _ _ _ _ _ us hl => match us, hl with | [_, _], _ => rfl
  have ga5 := PySem.W.mg_of X G Aa5
  have br6 := Fr6.binds (ps := ["self", "gaps", "tail"]) fun _ _ _ _ _ _ us hl => match us, hl with | [_, _, _], _ => rfl
  have er6 : Meth K C "__init__" fr6 := ⟨Ar6, Ir6, Kr6⟩
  have br8 := Fr8.binds (ps := ["self"]) fun _ _ _ _ _ _ us hl => match us, hl with | [_], _ => rfl
  have er8 : Meth K C "first_repeating" fr8 := ⟨Ar8, Ir8, Kr8⟩
  have br9 := Fr9.binds (ps := ["self"]) fun _ _ _ _ _ _ us hl => match us, hl with | [_], _ => rfl
  have er9 : Meth K C "period" fr9 := ⟨Ar9, Ir9, Kr9⟩
  have br10 := Fr10.binds (ps := ["self"]) fun _ _ _ _ _ _ us hl => match us, hl with | [_], _ => rfl
  have er10 : Meth K C "gaps" fr10 := ⟨Ar10, Ir10, Kr10⟩
  have ba12 := Fa12.binds (ps := ["_law_cell"]) fun _ _ _ _ _ _ us hl => match us, hl with | [_], _ => rfl
  have ga12 := PySem.W.mg_of X G Aa12
  have ba13 := Fa13.binds (ps := ["_law_source", "_law_bound"]) fun _ _ _ _ _ _ us hl => match us, hl with | [_, _], _ => rfl
  have ga13 := PySem.W.mg_of X G Aa13
  have ba14 := Fa14.binds (ps := ["_law_source", "_law_options"]) fun _ _ _ _ _ _ us hl => match us, hl with | [_, _], _ => rfl
  have ga14 := PySem.W.mg_of X G Aa14
  have ba15 := Fa15.binds (ps := ["_law_script", "_law_index"]) fun _ _ _ _ _ _ us hl => match us, hl with | [_, _], _ => rfl
  have ga15 := PySem.W.mg_of X G Aa15
  have ba16 := Fa16.binds (ps := ["rule"]) fun _ _ _ _ _ _ us hl => match us, hl with | [_], _ => rfl
  have ga16 := PySem.W.mg_of X G Aa16
  have ba17 := Fa17.binds (ps := ["rule"]) fun _ _ _ _ _ _ us hl => match us, hl with | [_], _ => rfl
  have ga17 := PySem.W.mg_of X G Aa17
  have ba18 := Fa18.binds (ps := ["rule", "start"]) fun _ _ _ _ _ _ us hl => match us, hl with | [_, _], _ => rfl
  have ga18 := PySem.W.mg_of X G Aa18
  have ba19 := Fa19.binds (ps := ["rule"]) fun _ _ _ _ _ _ us hl => match us, hl with | [_], _ => rfl
  have ga19 := PySem.W.mg_of X G Aa19
  have ba20 := Fa20.binds (ps := ["rule"]) fun _ _ _ _ _ _ us hl => match us, hl with | [_], _ => rfl
  have ga20 := PySem.W.mg_of X G Aa20
  have ba21 := Fa21.binds (ps := ["slot"]) fun _ _ _ _ _ _ us hl => match us, hl with | [_], _ => rfl
  have ga21 := PySem.W.mg_of X G Aa21
  have ba22 := Fa22.binds (ps := ["rule", "distance"]) fun _ _ _ _ _ _ us hl => match us, hl with | [_, _], _ => rfl
  have ga22 := PySem.W.mg_of X G Aa22
  have ba23 := Fa23.binds (ps := ["_law_source"]) fun _ _ _ _ _ _ us hl => match us, hl with | [_], _ => rfl
  have ga23 := PySem.W.mg_of X G Aa23
  have ba24 := Fa24.binds (ps := ["_law_gaps", "_law_count", "_law_start"]) fun _ _ _ _ _ _ us hl => match us, hl with | [_, _, _], _ => rfl
  have ga24 := PySem.W.mg_of X G Aa24
  have ba25 := Fa25.binds (ps := ["_law_gaps", "_law_count"]) fun _ _ _ _ _ _ us hl => match us, hl with | [_, _], _ => rfl
  have ga25 := PySem.W.mg_of X G Aa25
  have br26 := Fr26.binds (ps := ["self", "attempt"]) fun _ _ _ _ _ _ us hl => match us, hl with | [_, _], _ => rfl
  have er26 : Meth K C "_check_attempt" fr26 := ⟨Ar26, Ir26, Kr26⟩
  have br27 := Fr27.binds (ps := ["self", "attempt"]) fun _ _ _ _ _ _ us hl => match us, hl with | [_, _], _ => rfl
  have er27 : Meth K C "_offset_of" fr27 := ⟨Ar27, Ir27, Kr27⟩
  have br28 := Fr28.binds (ps := ["self", "attempt"]) fun _ _ _ _ _ _ us hl => match us, hl with | [_, _], _ => rfl
  have er28 : Meth K C "offset" fr28 := ⟨Ar28, Ir28, Kr28⟩
  have ba30 := Fa30.binds (ps := ["offsets", "distance"]) fun _ _ _ _ _ _ us hl => match us, hl with | [_, _], _ => rfl
  have ga30 := PySem.W.mg_of X G Aa30
  have br31 := Fr31.binds (ps := ["self", "way"]) fun _ _ _ _ _ _ us hl => match us, hl with | [_, _], _ => rfl
  have er31 : Meth K C "_surely_short" fr31 := ⟨Ar31, Ir31, Kr31⟩
  have br32 := Fr32.binds (ps := ["self", "distance"]) fun _ _ _ _ _ _ us hl => match us, hl with | [_, _], _ => rfl
  have er32 : Meth K C "_first_growing" fr32 := ⟨Ar32, Ir32, Kr32⟩
  have br33 := Fr33.binds (ps := ["self", "distance"]) fun _ _ _ _ _ _ us hl => match us, hl with | [_, _], _ => rfl
  have er33 : Meth K C "_first_repeated" fr33 := ⟨Ar33, Ir33, Kr33⟩
  have br34 := Fr34.binds (ps := ["self", "distance"]) fun _ _ _ _ _ _ us hl => match us, hl with | [_, _], _ => rfl
  have er34 : Meth K C "first_from" fr34 := ⟨Ar34, Ir34, Kr34⟩
  have ba35 := Fa35.binds (ps := ["distance"]) fun _ _ _ _ _ _ us hl => match us, hl with | [_], _ => rfl
  have ga35 := PySem.W.mg_of X G Aa35
  have ba36 := Fa36.binds (ps := ["rule", "distance", "later"]) fun _ _ _ _ _ _ us hl => match us, hl with | [_, _, _], _ => rfl
  have ga36 := PySem.W.mg_of X G Aa36
  have ba37 := Fa37.binds (ps := ["rule", "distance"]) fun _ _ _ _ _ _ us hl => match us, hl with | [_, _], _ => rfl
  have ga37 := PySem.W.mg_of X G Aa37
  have ba38 := Fa38.binds (ps := ["rule", "distance"]) fun _ _ _ _ _ _ us hl => match us, hl with | [_, _], _ => rfl
  have ga38 := PySem.W.mg_of X G Aa38

  refine ⟨PySem.W.fnOf "law" "law" (defArgs s_law) (defBody s_law) (defScope s_law) .none kVa0 dca0 pma0 ana0 cda0 cta0, fun s v => .of_eq rfl, fun base _ _ => ?_⟩
  have G0 := ok_isInt (mg := mg) (P := l.prog) (w := w) (base := base) Fa1 T
  have G6 := ok_sums (mg := mg) (P := l.prog) (w := w) (base := base) Fa4
  have G10 := ok_init (mg := mg) (P := l.prog) (w := w) (base := base) Fr6 T Fa1 ba1 ga1 Fa2 ba2 ga2 Fa3 ba3 ga3 Fa4 ba4 ga4
  have G16 := ok_fr (mg := mg) (P := l.prog) (w := w) (base := base) Fr8 T
  have G18 := ok_per (mg := mg) (P := l.prog) (w := w) (base := base) Fr9 T Fr8 br8 er8
  have G20 := ok_gaps (mg := mg) (P := l.prog) (w := w) (base := base) Fr10 T
  have G24 := ok_srcOf (mg := mg) (P := l.prog) (w := w) (base := base) Fa12 T
  have G26 := ok_next (mg := mg) (P := l.prog) (w := w) (base := base) Fa13 T
  have G28 := ok_one (mg := mg) (P := l.prog) (w := w) (base := base) Fa14 T Fa13 ba13 ga13
  have G30 := ok_cell (mg := mg) (P := l.prog) (w := w) (base := base) Fa15 T
  have G32 := ok_lo (mg := mg) (P := l.prog) (w := w) (base := base) Fa16 T G6 ba4 ga4 Ka4 G20 br10 er10
  have G34 := ok_ro (mg := mg) (P := l.prog) (w := w) (base := base) Fa17 T G32 ba16 ga16 Ka16 G16 br8 er8
  have G36 := ok_res (mg := mg) (P := l.prog) (w := w) (base := base) Fa18 T G34 ba17 ga17 Ka17 G18 br9 er9
  have G38 := ok_ckR (mg := mg) (P := l.prog) (w := w) (base := base) Fa19 T G16 br8 er8
  have G40 := ok_ld (mg := mg) (P := l.prog) (w := w) (base := base) Fa20 T G38 ba19 ga19 Ka19 G36 ba18 ga18 Ka18 G18 br9 er9
  have G42 := ok_ckSA (mg := mg) (P := l.prog) (w := w) (base := base) Fa21 T G0 ba1 ga1 Ka1
  have G44 := ok_mf (mg := mg) (P := l.prog) (w := w) (base := base) Fa22 T G38 ba19 ga19 Ka19 G42 ba21 ga21 Ka21 G40 ba20 ga20 Ka20 G18 br9 er9
  have G46 := ok_rep (mg := mg) (P := l.prog) (w := w) (base := base) Fa23 T G26 ba13 ga13 Ka13 G28 ba14 ga14 Ka14
  have G48 := ok_lres (mg := mg) (P := l.prog) (w := w) (base := base) Fa24 T
  have G50 := ok_ldue (mg := mg) (P := l.prog) (w := w) (base := base) Fa25 T G48 ba24 ga24 Ka24
  have G52 := ok_check (mg := mg) (P := l.prog) (w := w) (base := base) Fr26 T Fa1 ba1 ga1
  have G54 := ok_off (mg := mg) (P := l.prog) (w := w) (base := base) Fr27 T Fr8 br8 er8 Fr9 br9 er9 Fa5 ba5 ga5
  have G56 := ok_offset (mg := mg) (P := l.prog) (w := w) (base := base) Fr28 T er26 br26 er27 br27 G52 G54
  have G64 := ok_fg (mg := mg) (P := l.prog) (w := w) (base := base) Fr32 T Fr31 br31 er31 G54 br27 er27 Fa5 ba5 ga5
  have G66 := ok_frp (mg := mg) (P := l.prog) (w := w) (base := base) Fr33 T Fr8 br8 er8 Fr9 br9 er9 Fa30 ba30 ga30
  have G68 := ok_ff (mg := mg) (P := l.prog) (w := w) (base := base) Fr34 T Fa1 ba1 ga1 Fa30 ba30 ga30 G64 br32 er32 G66 br33 er33
  have G70 := ok_ckD (mg := mg) (P := l.prog) (w := w) (base := base) Fa35 T G0 ba1 ga1 Ka1
  have G72 := ok_rr (mg := mg) (P := l.prog) (w := w) (base := base) Fa36 T G68 br34 er34 G56 br28 er28
  have G74 := ok_rch (mg := mg) (P := l.prog) (w := w) (base := base) Fa37 T G16 br8 er8 G20 br10 er10 G72 ba36 ga36 Ka36
  have G76 := ok_sh (mg := mg) (P := l.prog) (w := w) (base := base) Fa38 T G70 ba35 ga35 Ka35 G74 ba37 ga37 Ka37 G16 br8 er8
  exact ok_law (P := l.prog) (w := w) (base := base) Fa0 T M G10 br6 G18 br9 er9 G30 ba15 ga15 Ka15 G24 ba12 ga12 Ka12 G26 ba13 ga13 Ka13 G28 ba14 ga14 Ka14 G46 ba23 ga23 Ka23 G50 ba25 ga25 Ka25 G40 ba20 ga20 Ka20 G44 ba22 ga22 Ka22 G76 ba38 ga38 Ka38
/-- the end of the walk, with what the top left loose -/
theorem walk_x {l : PySem.W.OpenLaw} {q : Program} {loose : List Str} {XP : (Str → Option Value) → Heap → Prop} {YP : World → Heap → Prop} {d : DefRec} {K : Params → PySem.W.Frag} (hn : l.most = some 63) (hdf : d.params.defaults = [])
    (hY : ∀ (w : World) (h : Heap), YP w h → (K w.params).In h)
    (F : ∀ (w : World) (mg : Str → Option Value) (fa : Addr) (h : Heap), (K w.params).In h → h.Ns mainGlobals mg → mg d.name = some (.ref fa) → XP mg h →
      ∃ fd : FuncData, (∀ (s : Shared) (u : Value), BindsTo s fd ⟨[u], []⟩ [("_law_script", u)]) ∧ ∀ base : Heap, (K w.params).In base → base.Ns mainGlobals mg → FnOk l.prog w (K w.params) mg base CX0 9 fa fd ["_law_script"] (spLaw (K w.params))) :
    PySem.W.WalkO q loose XP YP l.row.toRowW d [] (fun f vs => PySem.call f vs) := by
  refine Att.attach_call hn hdf ?_
  intro w _ s1 mg _ fa _ _ _ _ a vs ns G Y _ _ _ hmg hobj hints hlen hg
  obtain ⟨fd, hb, hF⟩ := F w mg fa _ (hY w _ Y) G.T.g hmg G.X
  refine law_call (hY w _ Y) G.T.g G.T.b G.T.builtins G.T.nolimit hg hobj hints ?_ ?_ hF hb ?_ ?_
  · exact Nat.le_trans hlen (by decide)
  · exact ⟨rfl, by decide, by decide⟩
  · exact fun H _ hS => ⟨a, ns, rfl, hS, hlen, fun _ => rfl⟩
  · exact fun H e s' z => z
theorem long_of {p : Program} {mg : Str → Option Value} {h : Heap} (x : PySem.W.XL p [("_LONGEST_GAP", .int 1000000000000)] mg h) : ∃ t, mg "_LONGEST_GAP" = some (.int 1000000000000 t) := by
  obtain ⟨v, e, r⟩ := x.2.val _ (List.mem_singleton.mpr rfl)
  cases r
  exact ⟨_, e⟩
end RS
open PySem PySem.W PyProof.Rows
set_option maxRecDepth 100000 in
set_option maxHeartbeats 0 in
theorem PySem.Challenge.cw_retryslots_k67_distances_that_loop_holds : PySem.Challenge.rw_retryslots_k67_distances_that_loop.Holds := by
  w_on; o_law; k_head; (case hw => w_witness2)
  k_fill
  refine RS.walk_x (l := PySem.Challenge.rw_retryslots_k67_distances_that_loop) rfl rfl (fun w h Y => PySem.W.kIn_of Y) ?F
  case F =>
    intro w mg fa h KX G hmg XX
    refine' RS.all_mk KX G hmg (RS.long_of XX) ?Aa0 ?La0 ?Ca0 ?Ka0 ?Aa1 ?La1 ?Ca1 ?Ka1 ?Aa2 ?La2 ?Ca2 ?Ka2 ?Aa3 ?La3 ?Ca3 ?Ka3 ?Aa4 ?La4 ?Ca4 ?Ka4 ?Aa5 ?La5 ?Ca5 ?Ka5 ?Ar6 ?Ir6 ?Lr6 ?Cr6 ?Kr6 ?Ar8 ?Ir8 ?Lr8 ?Cr8 ?Kr8 ?Ar9 ?Ir9 ?Lr9 ?Cr9 ?Kr9 ?Ar10 ?Ir10 ?Lr10 ?Cr10 ?Kr10 ?Aa12 ?La12 ?Ca12 ?Ka12 ?Aa13 ?La13 ?Ca13 ?Ka13 ?Aa14 ?La14 ?Ca14 ?Ka14 ?Aa15 ?La15 ?Ca15 ?Ka15 ?Aa16 ?La16 ?Ca16 ?Ka16 ?Aa17 ?La17 ?Ca17 ?Ka17 ?Aa18 ?La18 ?Ca18 ?Ka18 ?Aa19 ?La19 ?Ca19 ?Ka19 ?Aa20 ?La20 ?Ca20 ?Ka20 ?Aa21 ?La21 ?Ca21 ?Ka21 ?Aa22 ?La22 ?Ca22 ?Ka22 ?Aa23 ?La23 ?Ca23 ?Ka23 ?Aa24 ?La24 ?Ca24 ?Ka24 ?Aa25 ?La25 ?Ca25 ?Ka25 ?Ar26 ?Ir26 ?Lr26 ?Cr26 ?Kr26 ?Ar27 ?Ir27 ?Lr27 ?Cr27 ?Kr27 ?Ar28 ?Ir28 ?Lr28 ?Cr28 ?Kr28 ?Aa30 ?La30 ?Ca30 ?Ka30 ?Ar31 ?Ir31 ?Lr31 ?Cr31 ?Kr31 ?Ar32 ?Ir32 ?Lr32 ?Cr32 ?Kr32 ?Ar33 ?Ir33 ?Lr33 ?Cr33 ?Kr33 ?Ar34 ?Ir34 ?Lr34 ?Cr34 ?Kr34 ?Aa35 ?La35 ?Ca35 ?Ka35 ?Aa36 ?La36 ?Ca36 ?Ka36 ?Aa37 ?La37 ?Ca37 ?Ka37 ?Aa38 ?La38 ?Ca38 ?Ka38 ?aC ?pg ?hd ?po ?sa ?mk ?kc ?n0 ?n1 ?n2 ?z_len ?z_isinstance ?z_int ?z_bool ?z_list ?z_tuple ?z_str ?z_all ?z_range ?z_divmod ?z_sum ?z_max ?z_min ?z_sorted ?z_set ?z_any ?z_enumerate ?c_tM ?c_tF ?c_tL
    (case aC => k_is)
    (case Aa0 => k_is)
    (case La0 => k_is)
    (case Ca0 => k_is)
    (case Ka0 => k_is)
    (case Aa1 => k_is)
    (case La1 => k_is)
    (case Ca1 => k_is)
    (case Ka1 => k_is)
    (case Aa2 => k_is)
    (case La2 => k_is)
    (case Ca2 => k_is)
    (case Ka2 => k_is)
    (case Aa3 => k_is)
    (case La3 => k_is)
    (case Ca3 => k_is)
    (case Ka3 => k_is)
    (case Aa4 => k_is)
    (case La4 => k_is)
    (case Ca4 => k_is)
    (case Ka4 => k_is)
    (case Aa5 => k_is)
    (case La5 => k_is)
    (case Ca5 => k_is)
    (case Ka5 => k_is)
    (case Ar6 => k_is)
    (case Ir6 => k_is)
    (case Lr6 => k_is)
    (case Cr6 => k_is)
    (case Kr6 => k_is)
    (case Ar8 => k_is)
    (case Ir8 => k_is)
    (case Lr8 => k_is)
    (case Cr8 => k_is)
    (case Kr8 => k_is)
    (case Ar9 => k_is)
    (case Ir9 => k_is)
    (case Lr9 => k_is)
    (case Cr9 => k_is)
    (case Kr9 => k_is)
    (case Ar10 => k_is)
    (case Ir10 => k_is)
    (case Lr10 => k_is)
    (case Cr10 => k_is)
    (case Kr10 => k_is)
    (case Aa12 => k_is)
    (case La12 => k_is)
    (case Ca12 => k_is)
    (case Ka12 => k_is)
    (case Aa13 => k_is)
    (case La13 => k_is)
    (case Ca13 => k_is)
    (case Ka13 => k_is)
    (case Aa14 => k_is)
    (case La14 => k_is)
    (case Ca14 => k_is)
    (case Ka14 => k_is)
    (case Aa15 => k_is)
    (case La15 => k_is)
    (case Ca15 => k_is)
    (case Ka15 => k_is)
    (case Aa16 => k_is)
    (case La16 => k_is)
    (case Ca16 => k_is)
    (case Ka16 => k_is)
    (case Aa17 => k_is)
    (case La17 => k_is)
    (case Ca17 => k_is)
    (case Ka17 => k_is)
    (case Aa18 => k_is)
    (case La18 => k_is)
    (case Ca18 => k_is)
    (case Ka18 => k_is)
    (case Aa19 => k_is)
    (case La19 => k_is)
    (case Ca19 => k_is)
    (case Ka19 => k_is)
    (case Aa20 => k_is)
    (case La20 => k_is)
    (case Ca20 => k_is)
    (case Ka20 => k_is)
    (case Aa21 => k_is)
    (case La21 => k_is)
    (case Ca21 => k_is)
    (case Ka21 => k_is)
    (case Aa22 => k_is)
    (case La22 => k_is)
    (case Ca22 => k_is)
    (case Ka22 => k_is)
    (case Aa23 => k_is)
    (case La23 => k_is)
    (case Ca23 => k_is)
    (case Ka23 => k_is)
    (case Aa24 => k_is)
    (case La24 => k_is)
    (case Ca24 => k_is)
    (case Ka24 => k_is)
    (case Aa25 => k_is)
    (case La25 => k_is)
    (case Ca25 => k_is)
    (case Ka25 => k_is)
    (case Ar26 => k_is)
    (case Ir26 => k_is)
    (case Lr26 => k_is)
    (case Cr26 => k_is)
    (case Kr26 => k_is)
    (case Ar27 => k_is)
    (case Ir27 => k_is)
    (case Lr27 => k_is)
    (case Cr27 => k_is)
    (case Kr27 => k_is)
    (case Ar28 => k_is)
    (case Ir28 => k_is)
    (case Lr28 => k_is)
    (case Cr28 => k_is)
    (case Kr28 => k_is)
    (case Aa30 => k_is)
    (case La30 => k_is)
    (case Ca30 => k_is)
    (case Ka30 => k_is)
    (case Ar31 => k_is)
    (case Ir31 => k_is)
    (case Lr31 => k_is)
    (case Cr31 => k_is)
    (case Kr31 => k_is)
    (case Ar32 => k_is)
    (case Ir32 => k_is)
    (case Lr32 => k_is)
    (case Cr32 => k_is)
    (case Kr32 => k_is)
    (case Ar33 => k_is)
    (case Ir33 => k_is)
    (case Lr33 => k_is)
    (case Cr33 => k_is)
    (case Kr33 => k_is)
    (case Ar34 => k_is)
    (case Ir34 => k_is)
    (case Lr34 => k_is)
    (case Cr34 => k_is)
    (case Kr34 => k_is)
    (case Aa35 => k_is)
    (case La35 => k_is)
    (case Ca35 => k_is)
    (case Ka35 => k_is)
    (case Aa36 => k_is)
    (case La36 => k_is)
    (case Ca36 => k_is)
    (case Ka36 => k_is)
    (case Aa37 => k_is)
    (case La37 => k_is)
    (case Ca37 => k_is)
    (case Ka37 => k_is)
    (case Aa38 => k_is)
    (case La38 => k_is)
    (case Ca38 => k_is)
    (case Ka38 => k_is)
    (case pg => k_is)
    (case hd => k_is)
    (case po => k_is)
    (case sa => k_is)
    (case mk => k_is)
    (case kc => k_is)
    (case n0 => k_is)
    (case n1 => k_is)
    (case n2 => k_is)
    (case z_len => k_is)
    (case z_isinstance => k_is)
    (case z_int => k_is)
    (case z_bool => k_is)
    (case z_list => k_is)
    (case z_tuple => k_is)
    (case z_str => k_is)
    (case z_all => k_is)
    (case z_range => k_is)
    (case z_divmod => k_is)
    (case z_sum => k_is)
    (case z_max => k_is)
    (case z_min => k_is)
    (case z_sorted => k_is)
    (case z_set => k_is)
    (case z_any => k_is)
    (case z_enumerate => k_is)
    (case c_tM => k_is)
    (case c_tF => k_is)
    (case c_tL => k_is)

import PyProof.Rows.All
import Wide.All
import OpenK.AllK
import Wide.FinOn
import HandS.ForMost
import HandS.Evl
import HandS.Wide
import HandS.WideBits
import HandS.IsInst
import KE.KEqDeep
import KE.KMinKey
import HandS.Codes
import HandS.OwnEq
import PyProof.InstNe
import HandS.MakeKwOnly
import HandS.SortKw
import HandS.Defaults
import HandS.Exc
import HandS.TryOnly
import HandS.TryMany
import HandS.ExcOwn
import HandS.WordsExc
import HandS.More
import HandS.Lambda
import KE.KExcIs
import HandS.HotCalls
import HandS.ExcInit
import KE.KExcInit
import HandS.Walk
import HandS.Flow
import PySem.Challenge.RW_retryslots_k12_repetitions_judged
set_option Elab.async false
set_option maxRecDepth 100000
set_option maxHeartbeats 2000000
namespace RS
open PySem L2
def top (i : Nat) : Stmt := PySem.Challenge.pw_retryslots_k12_repetitions_judged.main.body.getD i (.Pass ⟨0, 0, 0, 0⟩)
abbrev s_wall : Stmt := top 0
abbrev s_InvalidRule_ddinitdd : Stmt := inClass (top 3) 0
abbrev s_InvalidAttempt_ddinitdd : Stmt := inClass (top 4) 0
abbrev s_LimitExceeded_ddinitdd : Stmt := inClass (top 5) 0
abbrev s_is_integer : Stmt := top 7
abbrev s_are_gaps : Stmt := top 10
abbrev s_sums : Stmt := top 12
abbrev s_is_repetition : Stmt := top 14
abbrev s_is_pair : Stmt := top 15
abbrev s_is_attempt : Stmt := top 16
abbrev s_difference : Stmt := top 17
abbrev s_Rule_ddinitdd : Stmt := inClass (top 22) 0
abbrev s_Rule_ddeqdd : Stmt := inClass (top 22) 1
abbrev s_Rule_gaps : Stmt := inClass (top 22) 2
abbrev s_Rule_tail : Stmt := inClass (top 22) 3
abbrev s_Rule_attempts : Stmt := inClass (top 22) 4
abbrev s_Rule_gap : Stmt := inClass (top 22) 5
abbrev s_Rule_offset : Stmt := inClass (top 22) 6
abbrev s_Rule_first_from : Stmt := inClass (top 22) 7
abbrev s_Rule_attempt_at : Stmt := inClass (top 22) 8
abbrev s_Rule_period : Stmt := inClass (top 22) 9
abbrev s_Rule_least_gap : Stmt := inClass (top 22) 10
abbrev s_Rule_first_repeating : Stmt := inClass (top 22) 11
abbrev s_Rule_offsets_between : Stmt := inClass (top 22) 12
abbrev s_Rule_check_attempt : Stmt := inClass (top 22) 13
abbrev s_Rule_offset_of : Stmt := inClass (top 22) 14
abbrev s_Rule_first_growing : Stmt := inClass (top 22) 15
abbrev s_Rule_surely_short : Stmt := inClass (top 22) 16
abbrev s_Rule_first_repeated : Stmt := inClass (top 22) 17
abbrev s_is_tail : Stmt := top 23
abbrev s_power : Stmt := top 24
abbrev s_law_cell_at : Stmt := top 26
abbrev s_law_source_of : Stmt := top 27
abbrev s_law_draw : Stmt := top 28
abbrev s_law_choice : Stmt := top 29
abbrev s_law_gaps : Stmt := top 30
abbrev s_law_tail : Stmt := top 31
abbrev s_law_offsets : Stmt := top 32
abbrev s_law_changed : Stmt := top 33
abbrev s_law_is_plain_pair : Stmt := top 34
abbrev s_law_due : Stmt := top 35
abbrev s_law_thousand_right : Stmt := top 36
abbrev s_law : Stmt := top 37
/-! ### what the walk asks of the text's top -/
structure Txt (K : PySem.W.Frag) (mg : Str → Option Value) (C : Addr) : Prop where
  cl : Cls K C
  nG : NoAttr K C "_gaps"
  nT : NoAttr K C "_tail"
  nO : NoAttr K C "_offsets"
  mgC : mg "Rule" = some (.ref C)
  len : mg "len" = none
  isi : mg "isinstance" = none
  int : mg "int" = none
  bool : mg "bool" = none
  list : mg "list" = none
  tuple : mg "tuple" = none
  str : mg "str" = none
  all : mg "all" = none
  range : mg "range" = none
  divmod : mg "divmod" = none
  sum : mg "sum" = none
  max : mg "max" = none
  min : mg "min" = none
  sorted : mg "sorted" = none
  set : mg "set" = none
  any : mg "any" = none
  enum : mg "enumerate" = none
  mMost : ∃ t, mg "_MOST_GAPS" = some (.int 20 t)
  mLong : ∃ t, mg "_LONGEST_GAP" = some (.int 1000000000000 t)
  mFact : ∃ t, mg "_GREATEST_FACTOR" = some (.int 1000 t)
  mLast : ∃ t, mg "LAST_GROWING" = some (.int 1000 t)

/-! ### the data -/
/-- a rule's tail -/
inductive Tl where
  | fin
  | times (b : Int)
  | rep (n : Nat)
def Tl.vs : Tl → List V
  | .fin => [.str "end"]
  | .times b => [.str "times", .int b]
  | .rep n => [.str "repeat", .int (n : Int)]
def GapsOk (gs : List Int) : Prop := gs.length ≤ 20 ∧ ∀ g ∈ gs, 1 ≤ g ∧ g ≤ 1000000000000
def TlOk (many : Nat) : Tl → Prop
  | .fin => True
  | .times b => 0 < many ∧ 2 ≤ b ∧ b ≤ 1000
  | .rep n => 1 ≤ n ∧ n ≤ many
/-- the sum of the first k gaps -/
def pre (gs : List Int) (k : Nat) : Int := (gs.take k).sum
def offs (gs : List Int) : List Int := (List.range (gs.length + 1)).map (pre gs)
theorem offs_len (gs : List Int) : (offs gs).length = gs.length + 1 := by simp [offs]
theorem offs_get (gs : List Int) {k : Nat} (h : k ≤ gs.length) : (offs gs)[k]? = some (pre gs k) := by
  unfold offs
  rw [List.getElem?_map, List.getElem?_range (by omega)]
  rfl
theorem pre_zero (gs : List Int) : pre gs 0 = 0 := rfl
theorem pre_succ (gs : List Int) {k : Nat} {g : Int} (h : gs[k]? = some g) : pre gs (k + 1) = pre gs k + g := by
  unfold pre
  rw [List.take_add_one, h, List.sum_append]
  simp
theorem iteFb {b : Bool} {A B : Prop} (e : b = false) (h : B) : if b = true then A else B := by
  rw [e]
  exact iteF h
theorem iteTb {b : Bool} {A B : Prop} (e : b = true) (h : A) : if b = true then A else B := by
  rw [e]
  exact iteT h
theorem yes_t {Q : Bool → Hp → Prop} {σ : L2.St} {H : Hp} (h : Q true H) : tYes σ H Q := h
theorem at_map {xs : List Int} {j : Nat} {v : Int} (h : xs[j]? = some v) : atI (xs.map V.int) (j : Int) = some (.int v) := atI_nat (by rw [List.getElem?_map, h]; rfl)
theorem at_back {α : Type} {xs : List α} {j : Nat} {v : α} (h0 : 0 < j) (hj : j ≤ xs.length) (h : xs[xs.length - j]? = some v) : atI xs (-(j : Int)) = some v := by
  have e : ixN xs.length (-(j : Int)) = some (xs.length - j) := by
    unfold ixN
    rw [if_neg (by omega), if_pos (by omega)]
    congr 1
    omega
  unfold atI
  rw [e]
  exact h
theorem at_back1 {α : Type} {xs : List α} {v : α} (hj : 0 < xs.length) (h : xs[xs.length - 1]? = some v) : atI xs (-1) = some v := at_back (j := 1) (by omega) hj h

section
variable {P : Program} {w : World} {K : PySem.W.Frag} {mg : Str → Option Value} {base : Heap}
/-! ### is_integer -/
def spIsInt : Sp := fun vs H Q _ => ∃ i, vs = [.int i] ∧ Q (.bl true) H
theorem scIsInt : FnScope ["value"] ["value"] (defScope s_is_integer) := ⟨rfl, rfl, rfl, by decide +kernel, rfl, by decide +kernel, by decide +kernel⟩
theorem ok_isInt {f C : Addr} {fd : FuncData} (F : Fun K "is_integer" "is_integer" s_is_integer f fd) (T : Txt K mg C) : FnOk P w K mg base CX0 1 f fd ["value"] spIsInt := by
  refine F.ok scIsInt (fun vs H Q E h => ?_) (fun cdv A outer s H vs Q E hr h => ?_)
  · obtain ⟨i, rfl, _⟩ := h
    rfl
  · obtain ⟨i, rfl, k⟩ := h
    refine ⟨_, pss_one (ps_ret (pe_and (pe_callB call_isi (by rfl) T.isi (by decide +kernel) (pa_cons (pv 0) (pa_cons (pe_bltn (v := .ty "int") (by rfl) T.int (by decide +kernel) rfl) pa_nil))) (pe_one (pe_not (pe_callB call_isi (by rfl) T.isi (by decide +kernel) (pa_cons (pv 0) (pa_cons (pe_bltn (v := .ty "bool") (by rfl) T.bool (by decide +kernel) rfl) pa_nil))))))), ?_⟩
    refine ⟨_, rfl, _, _, _, _, _, rfl, .ty _, .base (.int i), kit_ty (r := true) (by decide +kernel), true, rfl, ?_⟩
    refine iteT ?_
    exact ⟨_, rfl, _, _, _, _, _, rfl, .ty _, .base (.int i), kit_ty (r := false) (by decide +kernel), false, rfl, k⟩

/-! ### _are_gaps -/
def spAreGaps : Sp := fun vs H Q _ => ∃ a gs, ∃ most : Nat, vs = [.ref a, .int (most : Int)] ∧ H a = some (.lst (gs.map V.int)) ∧ GapsOk gs ∧ gs.length ≤ most ∧ ∀ H', Same H H' → Q (.bl true) H'
theorem scAreGaps : FnScope ["value", "most", "gap"] ["value", "most"] (defScope s_are_gaps) := ⟨rfl, rfl, rfl, by decide +kernel, rfl, by decide +kernel, by decide +kernel⟩
theorem ok_areGaps {f C fi : Addr} {fd fdi : FuncData} (F : Fun K "are_gaps" "are_gaps" s_are_gaps f fd) (T : Txt K mg C) (FI : Fun K "is_integer" "is_integer" s_is_integer fi fdi) (bI : Binds K fdi ["value"] []) (mI : mg "is_integer" = some (.ref fi)) : FnOk P w K mg base CX0 2 f fd ["value", "most"] spAreGaps := by
  have GI : FnOk P w K mg base CX0 1 fi fdi ["value"] spIsInt := ok_isInt FI T
  obtain ⟨t2, m2⟩ := T.mLong
  refine F.ok scAreGaps (fun vs H Q E h => ?_) (fun cdv A outer s H vs Q E hr h => ?_)
  · obtain ⟨a, gs, most, rfl, _⟩ := h
    rfl
  · obtain ⟨a, gs, most, rfl, ha, ok, okm, k⟩ := h
    refine ⟨_, (pss_cons (ps_if (PW.pt (pw_or (pt_not (pt_val (pe_callB call_isi (by rfl) T.isi (by decide +kernel) (pa_cons (pv 0) (pa_cons (pe_bltn (v := .ty "list") (by rfl) T.list (by decide +kernel) rfl) pa_nil))))) (pw_or1 (pt_cmpR op_gt (pe_callB call_len_seq (by rfl) T.len (by decide +kernel) (pa_cons (pv 0) pa_nil)) (pv 1) (nomark _))))) (pss_one (ps_ret pe_bl)) pss_nil) (pss_one (ps_ret (pe_callB (cr_all rfl) (by rfl) T.all (by decide +kernel) (pa_cons (pe_lc (own := [("gap", 2)]) (g := gName 2) (tt := tYes) rfl scAreGaps.nd (pi_list (pv 0)) (blkOk_by (own := [("gap", 2)]) (N := ["value", "most", "gap"]) (sc := defScope s_are_gaps) (by decide +kernel))
          (fun _ _ _ _ _ => (pg_name (i := 2) scAreGaps.nd rfl (Or.inl rfl))) (fun _ _ _ _ _ => pts_nil)
          (fun _ _ _ _ _ => pe_and (pe_call GI hr rfl mI FI.kp bI .nil pass0 (pa_cons (pv 2) pa_nil)) (pe_one (pe_chain op_le op_le pe_int (pv 2) (pe_glob (v := .int 1000000000000) rfl m2 ⟨_, rfl⟩))))) pa_nil))))), ?_⟩
    refine ⟨_, rfl, _, _, _, _, _, rfl, .ty _, .base (.lst ha), kit_ty (r := true) (by decide +kernel), true, rfl, ?_⟩
    refine iteF ?_
    refine ⟨_, rfl, a, _, rfl, .inl (SqL.of ha), _, rfl, _, _, rfl, rfl, _, rfl, ?_⟩
    refine iteFb (decide_eq_false (by rw [List.length_map]; omega)) ?_
    refine ⟨_, rfl, a, rfl, ⟨_, SqL.of ha⟩, fun D hD => lc_list (a := a) (xs := gs.map V.int) (fun i H' => Same H H' ∧ H' D = some (.lst ((List.replicate i true).map V.bl))) ⟨?_, upd_same⟩ (fun i H' _ p => p.1.seq (SqL.of ha)) (fun i x H' hx p => ?_) (fun H' p => ?_)⟩
    · intro b o e
      rw [upd_ne (ne_of_none e hD)]
      exact e
    · obtain ⟨g, hg, rfl⟩ : ∃ g, gs[i]? = some g ∧ x = .int g := by
        rw [List.getElem?_map] at hx
        cases e : gs[i]? with
        | none => rw [e] at hx; cases hx
        | some g => rw [e] at hx; exact ⟨g, rfl, (Option.some.inj hx).symm⟩
      have hb := ok.2 g (List.mem_of_getElem? hg)
      have hi : i < gs.length := (List.getElem?_eq_some_iff.mp hg).1
      refine ⟨rfl, ?_⟩
      refine yes_t (iteT ?_)
      refine ⟨_, rfl, g, rfl, true, rfl, iteT ?_⟩
      refine ⟨_, rfl, _, _, rfl, rfl, _, rfl, iteTb (decide_eq_true hb.1) ?_⟩
      refine ⟨_, _, rfl, rfl, _, p.2, ?_, fun b o e => ?_, ?_⟩
      · rw [List.length_map, List.length_replicate]
        exact small1000 (by have := ok.1; omega)
      · rw [upd_ne (ne_of_none e hD)]
        exact p.1 b o e
      · rw [upd_same, List.replicate_succ', List.map_append]
        show some (HO.lst (List.map V.bl (List.replicate i true) ++ [V.bl (decide (g ≤ 1000000000000))])) = _
        rw [decide_eq_true hb.2]
        rfl
    · refine ⟨D, _, rfl, SqL.of p.2, ?_⟩
      have e : (List.replicate (gs.map V.int).length true).all id = true := by
        rw [List.all_eq_true]
        intro x hx
        rw [(List.mem_replicate.mp hx).2]
        rfl
      rw [e]
      exact k H' p.1

/-! ### _is_tail -/
def spIsTail : Sp := fun vs H Q _ => ∃ (t : Addr) (tl : Tl) (n : Nat), vs = [.ref t, .int (n : Int)] ∧ H t = some (.tup tl.vs) ∧ TlOk n tl ∧ ∀ H', Same H H' → Q (.bl true) H'
theorem scIsTail : FnScope ["value", "many"] ["value", "many"] (defScope s_is_tail) := ⟨rfl, rfl, rfl, by decide +kernel, rfl, by decide +kernel, by decide +kernel⟩
theorem same_new {H : Hp} {p : Addr} {o : HO} (h : H p = none) : Same H (upd H p o) := fun b u e => by
  rw [upd_ne (ne_of_none e h)]
  exact e
theorem ok_isTail {f C fi : Addr} {fd fdi : FuncData} (F : Fun K "_is_tail" "_is_tail" s_is_tail f fd) (T : Txt K mg C) (FI : Fun K "is_integer" "is_integer" s_is_integer fi fdi) (bI : Binds K fdi ["value"] []) (mI : mg "is_integer" = some (.ref fi)) : FnOk P w K mg base CX0 2 f fd ["value", "many"] spIsTail := by
  have GI : FnOk P w K mg base CX0 1 fi fdi ["value"] spIsInt := ok_isInt FI T
  obtain ⟨t1, m1⟩ := T.mFact
  refine F.ok scIsTail (fun vs H Q E h => ?_) (fun cdv A outer s H vs Q E hr h => ?_)
  · obtain ⟨t, tl, n, rfl, _⟩ := h
    rfl
  · obtain ⟨t, tl, n, rfl, ht, ok, k⟩ := h
    refine ⟨_, (pss_cons (ps_if (PW.pt (pw_or (pt_not (pt_val (pe_callB call_isi (by rfl) T.isi (by decide +kernel) (pa_cons (pv 0) (pa_cons (pe_bltn (v := .ty "tuple") (by rfl) T.tuple (by decide +kernel) rfl) pa_nil))))) (pw_or1 (pt_cmpR op_notIn_seq (pe_callB call_len_seq (by rfl) T.len (by decide +kernel) (pa_cons (pv 0) pa_nil)) (pe_tup (pa_cons pe_int (pa_cons pe_int pa_nil))) (by rfl))))) (pss_one (ps_ret pe_bl)) pss_nil) (pss_cons (ps_if (pt_not (pt_val (pe_callB call_isi (by rfl) T.isi (by decide +kernel) (pa_cons (pe_ix ix_tup (pv 0) pe_int (fun _ _ => rfl)) (pa_cons (pe_bltn (v := .ty "str") (by rfl) T.str (by decide +kernel) rfl) pa_nil))))) (pss_one (ps_ret pe_bl)) pss_nil) (pss_cons (ps_if (pt_cmpR op_eq (pe_callB call_len_seq (by rfl) T.len (by decide +kernel) (pa_cons (pv 0) pa_nil)) pe_int (nomark _)) (pss_one (ps_ret (pe_cmpR op_eq (pe_ix ix_tup (pv 0) pe_int (fun _ _ => rfl)) pe_str (nomark _)))) pss_nil) (pss_cons (ps_if (pt_not (pt_val (pe_call GI hr rfl mI FI.kp bI .nil pass0 (pa_cons (pe_ix ix_tup (pv 0) pe_int (fun _ _ => rfl)) pa_nil)))) (pss_one (ps_ret pe_bl)) pss_nil) (pss_cons (ps_if (pt_cmpR op_eq (pe_ix ix_tup (pv 0) pe_int (fun _ _ => rfl)) pe_str (nomark _)) (pss_one (ps_ret (pe_and (pe_cmpR op_gt (pv 1) pe_int (nomark _)) (pe_one (pe_chain op_le op_le pe_int (pe_ix ix_tup (pv 0) pe_int (fun _ _ => rfl)) (pe_glob (v := .int 1000) rfl m1 ⟨_, rfl⟩)))))) pss_nil) (pss_one (ps_ret (pe_and (pe_cmpR op_eq (pe_ix ix_tup (pv 0) pe_int (fun _ _ => rfl)) pe_str (nomark _)) (pe_one (pe_chain op_le op_le pe_int (pe_ix ix_tup (pv 0) pe_int (fun _ _ => rfl)) (pv 1))))))))))), ?_⟩
    refine ⟨_, rfl, _, _, _, _, _, rfl, .ty _, .base (.tup ht), kit_ty (r := true) (by decide +kernel), true, rfl, ?_⟩
    refine iteF ?_
    refine ⟨_, rfl, t, _, rfl, .inr (SqT.of ht), by show 2 ≤ sizeLine; decide, fun q hq => ?_⟩
    have hS : Same H (upd H q (.tup [.int 1, .int 2])) := same_new hq
    have ht2 := hS t _ ht
    refine ⟨q, _, rfl, .inr (SqT.of upd_same), rfl, rfl, _, rfl, ?_⟩
    cases tl with
    | fin =>
      refine iteFb (by decide +kernel) ?_
      refine ⟨_, rfl, t, _, _, _, rfl, rfl, SqT.of ht2, atI_nat (j := 0) rfl, _, _, _, _, _, rfl, .ty _, .base (.str _), kit_ty (r := true) (by decide +kernel), true, rfl, iteF ?_⟩
      refine ⟨_, rfl, t, _, rfl, .inr (SqT.of ht2), rfl, _, rfl, iteTb (by decide +kernel) ?_⟩
      refine ⟨_, rfl, t, _, _, _, rfl, rfl, SqT.of ht2, atI_nat (j := 0) rfl, rfl, ?_⟩
      exact k _ hS
    | times b =>
      refine iteFb (by show (!inV (V.int 2) [V.int 1, V.int 2]) = false; decide +kernel) ?_
      refine ⟨_, rfl, t, _, _, _, rfl, rfl, SqT.of ht2, atI_nat (j := 0) rfl, _, _, _, _, _, rfl, .ty _, .base (.str _), kit_ty (r := true) (by decide +kernel), true, rfl, iteF ?_⟩
      refine ⟨_, rfl, t, _, rfl, .inr (SqT.of ht2), rfl, _, rfl, iteFb (by show decide (V.int 2 = V.int 1) = false; decide +kernel) ?_⟩
      refine ⟨_, rfl, t, _, _, _, rfl, rfl, SqT.of ht2, atI_nat (j := 1) rfl, b, rfl, true, rfl, iteF ?_⟩
      refine ⟨_, rfl, t, _, _, _, rfl, rfl, SqT.of ht2, atI_nat (j := 0) rfl, rfl, _, rfl, iteTb (by decide +kernel) ?_⟩
      refine ⟨_, rfl, _, _, rfl, rfl, _, rfl, iteTb (decide_eq_true (by have := ok.1; omega)) ?_⟩
      refine ⟨_, rfl, t, _, _, _, rfl, rfl, SqT.of ht2, atI_nat (j := 1) rfl, _, _, rfl, rfl, _, rfl, iteTb (decide_eq_true ok.2.1) ?_⟩
      refine ⟨_, _, rfl, rfl, ?_⟩
      show Q (.bl (decide (b ≤ 1000))) _
      rw [decide_eq_true ok.2.2]
      exact k _ hS
    | rep m =>
      refine iteFb (by show (!inV (V.int 2) [V.int 1, V.int 2]) = false; decide +kernel) ?_
      refine ⟨_, rfl, t, _, _, _, rfl, rfl, SqT.of ht2, atI_nat (j := 0) rfl, _, _, _, _, _, rfl, .ty _, .base (.str _), kit_ty (r := true) (by decide +kernel), true, rfl, iteF ?_⟩
      refine ⟨_, rfl, t, _, rfl, .inr (SqT.of ht2), rfl, _, rfl, iteFb (by show decide (V.int 2 = V.int 1) = false; decide +kernel) ?_⟩
      refine ⟨_, rfl, t, _, _, _, rfl, rfl, SqT.of ht2, atI_nat (j := 1) rfl, _, rfl, true, rfl, iteF ?_⟩
      refine ⟨_, rfl, t, _, _, _, rfl, rfl, SqT.of ht2, atI_nat (j := 0) rfl, rfl, _, rfl, iteFb (by decide +kernel) ?_⟩
      refine ⟨_, rfl, t, _, _, _, rfl, rfl, SqT.of ht2, atI_nat (j := 0) rfl, rfl, true, by decide +kernel, iteT ?_⟩
      refine ⟨_, rfl, t, _, _, _, rfl, rfl, SqT.of ht2, atI_nat (j := 1) rfl, _, _, rfl, rfl, _, rfl, iteTb (decide_eq_true (by have := ok.1; omega)) ?_⟩
      refine ⟨_, rfl, _, _, rfl, rfl, ?_⟩
      show Q (.bl (decide (((m : Nat) : Int) ≤ (n : Int)))) _
      rw [decide_eq_true (show ((m : Nat) : Int) ≤ (n : Int) by have := ok.2; omega)]
      exact k _ hS
end
end RS
namespace RS
open PySem L2
theorem kGT : ¬ (("_gaps" : Str) = "_tail") := by decide +kernel
theorem kGO : ¬ (("_gaps" : Str) = "_offsets") := by decide +kernel
theorem kTO : ¬ (("_tail" : Str) = "_offsets") := by decide +kernel
def flds (g t o : Addr) : List (Str × V) := putF "_offsets" (.ref o) (putF "_tail" (.ref t) (putF "_gaps" (.ref g) []))
theorem flds_g (g t o : Addr) : (flds g t o).lookup ("_gaps" : Str) = some (.ref g) := by
  unfold flds
  rw [lookup_putF, if_neg kGO, lookup_putF, if_neg kGT, lookup_putF, if_pos rfl]
theorem flds_t (g t o : Addr) : (flds g t o).lookup ("_tail" : Str) = some (.ref t) := by
  unfold flds
  rw [lookup_putF, if_neg kTO, lookup_putF, if_pos rfl]
theorem flds_o (g t o : Addr) : (flds g t o).lookup ("_offsets" : Str) = some (.ref o) := by
  unfold flds
  rw [lookup_putF, if_pos rfl]
theorem flds_no (g t o : Addr) {m : Str} (h1 : ¬ m = "_offsets") (h2 : ¬ m = "_tail") (h3 : ¬ m = "_gaps") : (flds g t o).lookup m = none := by
  unfold flds
  rw [lookup_putF, if_neg h1, lookup_putF, if_neg h2, lookup_putF, if_neg h3]
  rfl
/-- a rule stands at p -/
structure RuleAt (C : Addr) (H : Hp) (p g t o : Addr) (gs : List Int) (tl : Tl) : Prop where
  ob : ∃ dx, H p = some (.ins C dx (flds g t o))
  hg : H g = some (.lst (gs.map V.int))
  ht : H t = some (.tup tl.vs)
  ho : H o = some (.lst ((offs gs).map V.int))
  okG : GapsOk gs
  okT : TlOk gs.length tl
theorem RuleAt.mono {C : Addr} {H H' : Hp} {p g t o : Addr} {gs : List Int} {tl : Tl} (R : RuleAt C H p g t o gs tl) (h : Same H H') : RuleAt C H' p g t o gs tl :=
  ⟨let ⟨dx, e⟩ := R.ob; ⟨dx, h _ _ e⟩, h _ _ R.hg, h _ _ R.ht, h _ _ R.ho, R.okG, R.okT⟩
theorem map_of {xs : List Int} {i : Nat} {x : V} (hx : (xs.map V.int)[i]? = some x) : ∃ g, xs[i]? = some g ∧ x = .int g := by
  rw [List.getElem?_map] at hx
  cases e : xs[i]? with
  | none => rw [e] at hx; cases hx
  | some g => rw [e] at hx; exact ⟨g, rfl, (Option.some.inj hx).symm⟩

section
variable {P : Program} {w : World} {K : PySem.W.Frag} {mg : Str → Option Value} {base : Heap}
/-! ### _sums -/
def spSums : Sp := fun vs H Q _ => ∃ a gs, vs = [.ref a] ∧ H a = some (.lst (gs.map V.int)) ∧ gs.length ≤ 100 ∧ ∀ p H', H p = none → Same H H' → H' p = some (.lst ((offs gs).map V.int)) → Q (.ref p) H'
theorem scSums : FnScope ["gaps", "offsets", "gap"] ["gaps"] (defScope s_sums) := ⟨rfl, rfl, rfl, by decide +kernel, rfl, by decide +kernel, by decide +kernel⟩
theorem ok_sums {f : Addr} {fd : FuncData} (F : Fun K "sums" "sums" s_sums f fd) : FnOk P w K mg base CX0 1 f fd ["gaps"] spSums := by
  refine F.ok scSums (fun vs H Q E h => ?_) (fun cdv A outer s H vs Q E hr h => ?_)
  · obtain ⟨a, gs, rfl, _⟩ := h
    rfl
  · obtain ⟨a, gs, rfl, ha, hn, k⟩ := h
    refine ⟨_, (pss_cons (ps_set (i := 1) scSums.nd rfl (Or.inl rfl) (pe_lst (pa_cons pe_int pa_nil))) (pss_cons (ps_for PassesOwn.never rfl (pi_list (pv 0)) (pg_name (i := 2) scSums.nd rfl (Or.inl rfl)) (pss_one (ps_expr (pe_bm PySem.F.plainAttrs_list PySem.F.slot_list_append PySem.F.type_list_append mt_append (pv 1) (pa_cons (pe_op op_add (pe_ix ix_list (pv 1) (pe_un un_neg pe_int) (fun _ _ => rfl)) (pv 2)) pa_nil))))) (pss_one (ps_ret (pv 1))))), ?_⟩
    refine ⟨by show 1 ≤ sizeLine; decide, fun l hl => ?_⟩
    have S0 : Same H (upd H l (.lst [.int 0])) := same_new hl
    refine ⟨_, rfl, a, rfl, ⟨_, SqL.of (S0 _ _ ha)⟩, for_list (a := a) (xs := gs.map V.int) (fun i σ H' => ∃ v, σ = [some (.ref a), some (.ref l), v] ∧ Same H H' ∧ H' l = some (.lst (((List.range (i + 1)).map (pre gs)).map V.int))) ⟨none, rfl, S0, upd_same⟩ (fun i σ H' _ ⟨v, _, S, _⟩ => SqL.of (S _ _ ha)) ?_ ?_⟩
    · rintro i x σ H' hx ⟨v, rfl, S, hl'⟩
      obtain ⟨g, hg, rfl⟩ := map_of hx
      have hi : i < gs.length := (List.getElem?_eq_some_iff.mp hg).1
      have hz : (((List.range (i + 1)).map (pre gs)).map V.int).length = i + 1 := by simp
      refine ⟨_, rfl, .inl ⟨rfl, _, SqL.of hl'⟩, _, rfl, _, rfl, l, _, _, _, rfl, rfl, SqL.of hl', at_back1 (v := .int (pre gs i)) (by rw [hz]; omega) ?_, _, rfl, _, _, rfl, rfl, l, _, _, rfl, rfl, hl', by rw [hz]; exact small1000 (by omega), ?_⟩
      · rw [hz, List.getElem?_map, List.getElem?_map, List.getElem?_range (by omega)]
        rfl
      · refine ⟨_, rfl, fun b o e => ?_, ?_⟩
        · rw [upd_ne (ne_of_none e hl)]
          exact S b o e
        · rw [upd_same, List.range_succ (n := i + 1), List.map_append, List.map_append]
          show _ = some (HO.lst (_ ++ [V.int (pre gs (i + 1))]))
          rw [pre_succ gs hg]
    · rintro σ H' ⟨v, rfl, S, hl'⟩
      rw [List.length_map] at hl'
      exact ⟨_, rfl, k l H' hl S hl'⟩

/-! ### _power -/
def spPower : Sp := fun vs H Q _ => ∃ (b : Int) (e : Nat), vs = [.int b, .int (e : Int)] ∧ 0 ≤ b ∧ b < 1024 ∧ e ≤ 1024 ∧ Q (.int (b ^ e)) H
theorem scPower : FnScope ["base", "exponent", "result"] ["base", "exponent"] (defScope s_power) := ⟨rfl, rfl, rfl, by decide +kernel, rfl, by decide +kernel, by decide +kernel⟩
theorem pow_small {b : Int} {n : Nat} (h0 : 0 ≤ b) (h1 : b < 1024) (hn : n ≤ 2048) : (b ^ n).natAbs < 2 ^ 20481 := by
  rw [Int.natAbs_pow]
  have h2 : b.natAbs ≤ 2 ^ 10 := by omega
  have h3 : b.natAbs ^ n ≤ (2 ^ 10) ^ n := Nat.pow_le_pow_left h2 n
  rw [← Nat.pow_mul] at h3
  have h4 : 2 ^ (10 * n) < 2 ^ 20481 := Nat.pow_lt_pow_right (by decide) (by omega)
  omega
theorem half_mod (e k : Nat) : e % 2 ^ (k + 1) = e % 2 ^ k + 2 ^ k * (e / 2 ^ k % 2) := by
  rw [Nat.pow_succ, Nat.mod_mul]
theorem half_div (e k : Nat) : e / 2 ^ k / 2 = e / 2 ^ (k + 1) := by
  rw [Nat.pow_succ, Nat.div_div_eq_div_mul]
theorem ok_power {f : Addr} {fd : FuncData} (F : Fun K "_power" "_power" s_power f fd) : FnOk P w K mg base CX0 1 f fd ["base", "exponent"] spPower := by
  refine F.ok scPower (fun vs H Q E h => ?_) (fun cdv A outer s H vs Q E hr h => ?_)
  · obtain ⟨b, e, rfl, _⟩ := h
    rfl
  · obtain ⟨b, e, rfl, b0, b1, he, k⟩ := h
    refine ⟨_, (pss_cons (ps_set (i := 2) scPower.nd rfl (Or.inl rfl) pe_int) (pss_cons (ps_while PassesOwn.never (pt_cmpR op_gt (pv 1) pe_int (nomark _)) (pss_cons (ps_if (pt_cmpR op_eq (pe_op op_odd (pv 1) pe_int) pe_int (nomark _)) (pss_one (ps_set (i := 2) scPower.nd rfl (Or.inl rfl) (pe_op op_mulW (pv 2) (pv 0)))) pss_nil) (pss_cons (ps_set (i := 0) scPower.nd rfl (Or.inl rfl) (pe_op op_mulW (pv 0) (pv 0))) (pss_one (ps_set (i := 1) scPower.nd rfl (Or.inl rfl) (pe_op op_halfN (pv 1) pe_int)))))) (pss_one (ps_ret (pv 2))))), ?_⟩
    refine ⟨fun m σ H' => H' = H ∧ ∃ j, m = e / 2 ^ j ∧ σ = [some (.int (b ^ (2 ^ j))), some (.int ((e / 2 ^ j : Nat) : Int)), some (.int (b ^ (e % 2 ^ j)))], ⟨e, rfl, 0, by simp, by simp [L2.start, Nat.mod_one]; rw [Int.pow_succ, Int.pow_zero, Int.one_mul]⟩, ?_⟩
    rintro m σ H' ⟨rfl, j, rfl, rfl⟩
    refine ⟨_, rfl, _, _, rfl, rfl, _, rfl, ?_⟩
    by_cases hz : 0 < e / 2 ^ j
    · refine iteTb (decide_eq_true (by omega)) ?_
      have hj : 2 ^ j ≤ e := by
        by_cases hlt : e < 2 ^ j
        · rw [Nat.div_eq_of_lt hlt] at hz; omega
        · omega
      have hj1 : (b ^ (2 ^ j)).natAbs < 2 ^ 20481 := pow_small b0 b1 (by omega)
      have hm : e % 2 ^ j < 2 ^ j := Nat.mod_lt _ (Nat.pow_pos (by decide))
      have hr1 : (b ^ (e % 2 ^ j)).natAbs < 2 ^ 20481 := pow_small b0 b1 (by omega)
      refine ⟨fun σ' H2 => H2 = H' ∧ σ' = [some (.int (b ^ (2 ^ (j + 1)))), some (.int ((e / 2 ^ (j + 1) : Nat) : Int)), some (.int (b ^ (e % 2 ^ (j + 1))))], ?_, ?_⟩
      · rintro σ' H2 ⟨rfl, rfl⟩
        refine ⟨e / 2 ^ (j + 1), ?_, rfl, j + 1, rfl, rfl⟩
        rw [← half_div]
        omega
      · have e2 : b ^ 2 ^ j * b ^ 2 ^ j = b ^ 2 ^ (j + 1) := by
          rw [← Int.pow_add, Nat.pow_succ, Nat.mul_two]
        refine ⟨_, rfl, e / 2 ^ j, rfl, rfl, rfl, _, rfl, ?_⟩
        rcases Nat.mod_two_eq_zero_or_one (e / 2 ^ j) with h2 | h2
        · refine iteFb (decide_eq_false (by rw [h2]; intro z; cases z)) ?_
          refine ⟨_, rfl, _, rfl, _, _, rfl, rfl, wide_mul hj1 hj1 (by decide) (by decide) (by decide), ?_⟩
          refine ⟨_, rfl, e / 2 ^ j, rfl, rfl, rfl, ?_⟩
          rw [half_mod, h2, Nat.mul_zero, Nat.add_zero, ← half_div, ← e2]
          rfl
        · refine iteTb (decide_eq_true (by rw [h2]; rfl)) ?_
          refine ⟨_, rfl, _, rfl, _, _, rfl, rfl, wide_mul hr1 hj1 (by decide) (by decide) (by decide), ?_⟩
          refine ⟨_, rfl, _, rfl, _, _, rfl, rfl, wide_mul hj1 hj1 (by decide) (by decide) (by decide), ?_⟩
          refine ⟨_, rfl, e / 2 ^ j, rfl, rfl, rfl, ?_⟩
          rw [half_mod, h2, Nat.mul_one, Int.pow_add, ← half_div, ← e2]
          rfl
    · refine iteFb (decide_eq_false (by omega)) ?_
      have hlt : e % 2 ^ j = e := by
        refine Nat.mod_eq_of_lt ?_
        have := Nat.lt_div_mul_add (a := e) (b := 2 ^ j) (Nat.pow_pos (by decide))
        have h0 : e / 2 ^ j = 0 := Nat.eq_zero_of_not_pos hz
        rw [h0] at this
        omega
      refine ⟨_, rfl, ?_⟩
      rw [hlt]
      exact k
end
end RS
namespace RS
open PySem L2
def Tl.word : Tl → Str
  | .fin => "end"
  | .times _ => "times"
  | .rep _ => "repeat"
theorem Tl.at0 (tl : Tl) : atI tl.vs 0 = some (.str tl.word) := by cases tl <;> exact atI_nat (j := 0) rfl
theorem wEE : decide (V.str "end" = V.str "end") = true := by decide +kernel
theorem wET : decide (V.str "end" = V.str "times") = false := by decide +kernel
theorem wER : decide (V.str "end" = V.str "repeat") = false := by decide +kernel
theorem wTE : decide (V.str "times" = V.str "end") = false := by decide +kernel
theorem wTT : decide (V.str "times" = V.str "times") = true := by decide +kernel
theorem wTR : decide (V.str "times" = V.str "repeat") = false := by decide +kernel
theorem wRE : decide (V.str "repeat" = V.str "end") = false := by decide +kernel
theorem wRT : decide (V.str "repeat" = V.str "times") = false := by decide +kernel
theorem wRR : decide (V.str "repeat" = V.str "repeat") = true := by decide +kernel
def lastG (gs : List Int) : Int := gs.getD (gs.length - 1) 0
def per (gs : List Int) (m : Nat) : Int := pre gs gs.length - pre gs (gs.length - m)
def off (gs : List Int) (tl : Tl) (n : Nat) : Int :=
  if n ≤ gs.length then pre gs n else match tl with
  | .fin => 0
  | .times b => pre gs gs.length + lastG gs * b * (b ^ (n - gs.length) - 1) / (b - 1)
  | .rep m => pre gs (gs.length - m + (n - gs.length) % m) + (((n - gs.length) / m : Nat) + 1) * per gs m
def gapf (gs : List Int) (tl : Tl) (n : Nat) : Int :=
  if n < gs.length then gs.getD n 0 else match tl with
  | .fin => 0
  | .times b => lastG gs * b ^ (n - gs.length + 1)
  | .rep m => gs.getD (gs.length - m + (n - gs.length) % m) 0
/-- an attempt that is answered -/
def AttOk (gs : List Int) (tl : Tl) (n : Nat) : Prop := match tl with
  | .fin => n ≤ gs.length
  | .times _ => n ≤ 1000
  | .rep _ => True
theorem AttOk.low {gs : List Int} {tl : Tl} (okG : GapsOk gs) {n : Nat} (h : n ≤ gs.length) : AttOk gs tl n := by
  cases tl with
  | fin => exact h
  | times b => have := okG.1; show n ≤ 1000; omega
  | rep m => exact True.intro
theorem getD_get {gs : List Int} {k : Nat} (h : k < gs.length) : gs[k]? = some (gs.getD k 0) := by
  rw [List.getD_eq_getElem?_getD, List.getElem?_eq_getElem h]
  rfl
theorem gap_bd {gs : List Int} (ok : GapsOk gs) {k : Nat} (h : k < gs.length) : 1 ≤ gs.getD k 0 ∧ gs.getD k 0 ≤ 1000000000000 := ok.2 _ (List.mem_of_getElem? (getD_get h))
theorem pre_le {gs : List Int} (ok : GapsOk gs) : ∀ k, k ≤ gs.length → (k : Int) ≤ pre gs k ∧ pre gs k ≤ 1000000000000 * k
  | 0, _ => by rw [pre_zero]; omega
  | k + 1, h => by
    have ih := pre_le ok k (by omega)
    have b := gap_bd ok (k := k) (by omega)
    rw [pre_succ gs (getD_get (by omega))]
    omega
theorem pre_mono {gs : List Int} (ok : GapsOk gs) (i : Nat) : ∀ k, i + k ≤ gs.length → pre gs i + k ≤ pre gs (i + k)
  | 0, _ => by simp
  | k + 1, h => by
    have ih := pre_mono ok i k (by omega)
    have b := gap_bd ok (k := i + k) (by omega)
    rw [show i + (k + 1) = (i + k) + 1 by omega, pre_succ gs (getD_get (by omega))]
    omega
theorem per_bd {gs : List Int} (ok : GapsOk gs) {m : Nat} (h1 : 1 ≤ m) (h2 : m ≤ gs.length) : (m : Int) ≤ per gs m ∧ per gs m ≤ 20000000000000 := by
  have a := pre_mono ok (gs.length - m) m (by omega)
  have b := pre_le ok (gs.length - m) (by omega)
  have c := pre_le ok gs.length (Nat.le_refl _)
  have d := ok.1
  rw [show gs.length - m + m = gs.length by omega] at a
  unfold per
  omega

section
variable {P : Program} {w : World} {K : PySem.W.Frag} {mg : Str → Option Value} {base : Heap}
/-! ### a rule's attributes, read -/
section
variable {C p g t o : Addr} {gs : List Int} {tl : Tl} {H : Hp} {σ : L2.St} {i : Nat}
theorem rdG {Q : VK} (T : Txt K mg C) (R : RuleAt C H p g t o gs tl) (hi : σ[i]? = some (some (.ref p))) (q : Q (.ref g) H) : tFld K (tVar i) "_gaps" σ H Q := by
  obtain ⟨dx, h⟩ := R.ob
  exact ⟨_, hi, p, C, dx, _, _, rfl, h, T.cl, T.nG, flds_g _ _ _, q⟩
theorem rdT {Q : VK} (T : Txt K mg C) (R : RuleAt C H p g t o gs tl) (hi : σ[i]? = some (some (.ref p))) (q : Q (.ref t) H) : tFld K (tVar i) "_tail" σ H Q := by
  obtain ⟨dx, h⟩ := R.ob
  exact ⟨_, hi, p, C, dx, _, _, rfl, h, T.cl, T.nT, flds_t _ _ _, q⟩
theorem rdO {Q : VK} (T : Txt K mg C) (R : RuleAt C H p g t o gs tl) (hi : σ[i]? = some (some (.ref p))) (q : Q (.ref o) H) : tFld K (tVar i) "_offsets" σ H Q := by
  obtain ⟨dx, h⟩ := R.ob
  exact ⟨_, hi, p, C, dx, _, _, rfl, h, T.cl, T.nO, flds_o _ _ _, q⟩
theorem rdOx {te : TE} {Q : VK} (T : Txt K mg C) (R : RuleAt C H p g t o gs tl) (hi : σ[i]? = some (some (.ref p))) (q : te σ H fun y H2 => rIxL K (.ref o) y H2 Q) : tOp (rIxL K) (tFld K (tVar i) "_offsets") te σ H Q := by
  dsimp only [tOp]
  exact rdO T R hi q
theorem rdGx {te : TE} {Q : VK} (T : Txt K mg C) (R : RuleAt C H p g t o gs tl) (hi : σ[i]? = some (some (.ref p))) (q : te σ H fun y H2 => rIxL K (.ref g) y H2 Q) : tOp (rIxL K) (tFld K (tVar i) "_gaps") te σ H Q := by
  dsimp only [tOp]
  exact rdG T R hi q
theorem rdIs {s : Str} {Q : Bool → Hp → Prop} (T : Txt K mg C) (R : RuleAt C H p g t o gs tl) (hi : σ[i]? = some (some (.ref p))) (q : Q (decide (V.str tl.word = V.str s)) H) :
    tTest (tOp rEq (tOp (rIxT K) (tFld K (tVar i) "_tail") (tC (.int 0))) (tC (.str s))) σ H Q := by
  dsimp only [tTest, tOp]
  exact rdT T R hi ⟨t, _, _, _, rfl, rfl, SqT.of R.ht, tl.at0, rfl, _, rfl, q⟩
theorem rdNe {s : Str} {Q : Bool → Hp → Prop} (T : Txt K mg C) (R : RuleAt C H p g t o gs tl) (hi : σ[i]? = some (some (.ref p))) (q : Q (!decide (V.str tl.word = V.str s)) H) :
    tTest (tOp rNe (tOp (rIxT K) (tFld K (tVar i) "_tail") (tC (.int 0))) (tC (.str s))) σ H Q := by
  dsimp only [tTest, tOp]
  exact rdT T R hi ⟨t, _, _, _, rfl, rfl, SqT.of R.ht, tl.at0, rfl, _, rfl, q⟩
theorem rdB {b : Int} {Q : VK} (T : Txt K mg C) (R : RuleAt C H p g t o gs (.times b)) (hi : σ[i]? = some (some (.ref p))) (q : Q (.int b) H) : tOp (rIxT K) (tFld K (tVar i) "_tail") (tC (.int 1)) σ H Q :=
  rdT T R hi ⟨t, _, _, _, rfl, rfl, SqT.of R.ht, atI_nat (j := 1) rfl, q⟩
theorem rdN {m : Nat} {Q : VK} (T : Txt K mg C) (R : RuleAt C H p g t o gs (.rep m)) (hi : σ[i]? = some (some (.ref p))) (q : Q (.int (m : Int)) H) : tOp (rIxT K) (tFld K (tVar i) "_tail") (tC (.int 1)) σ H Q :=
  rdT T R hi ⟨t, _, _, _, rfl, rfl, SqT.of R.ht, atI_nat (j := 1) rfl, q⟩
theorem rdLast {Q : VK} (T : Txt K mg C) (R : RuleAt C H p g t o gs tl) (hi : σ[i]? = some (some (.ref p))) (h0 : 0 < gs.length) (q : Q (.int (lastG gs)) H) :
    tOp (rIxL K) (tFld K (tVar i) "_gaps") (tUn (rU fun i => .int (-i)) (tC (.int 1))) σ H Q :=
  rdG T R hi ⟨_, rfl, g, _, _, _, rfl, rfl, SqL.of R.hg, at_back1 (by rw [List.length_map]; exact h0) (by rw [List.length_map, List.getElem?_map, getD_get (by omega)]; rfl), q⟩
theorem rdLastO {Q : VK} (T : Txt K mg C) (R : RuleAt C H p g t o gs tl) (hi : σ[i]? = some (some (.ref p))) (q : Q (.int (pre gs gs.length)) H) :
    tOp (rIxL K) (tFld K (tVar i) "_offsets") (tUn (rU fun i => .int (-i)) (tC (.int 1))) σ H Q :=
  rdO T R hi ⟨_, rfl, o, _, _, _, rfl, rfl, SqL.of R.ho, at_back1 (by rw [List.length_map, offs_len]; omega) (by rw [List.length_map, offs_len, List.getElem?_map, offs_get gs (by omega)]; rfl), q⟩
end
/-! ### Rule.__init__ -/
def spInit (C : Addr) : Sp := fun vs H Q _ => ∃ (p dx a t : Addr) (gs : List Int) (tl : Tl), vs = [.ref p, .ref a, .ref t] ∧ H p = some (.ins C dx []) ∧ H a = some (.lst (gs.map V.int)) ∧ H t = some (.tup tl.vs) ∧ GapsOk gs ∧ TlOk gs.length tl ∧
  ∀ (g o : Addr) (H' : Hp), H g = none → H o = none → (∀ b u, H b = some u → b ≠ p → H' b = some u) → RuleAt C H' p g t o gs tl → Q .non H'
theorem scInit : FnScope ["self", "gaps", "tail"] ["self", "gaps", "tail"] (defScope s_Rule_ddinitdd) := ⟨rfl, rfl, rfl, by decide +kernel, rfl, by decide +kernel, by decide +kernel⟩
theorem ok_init {f C fA fB fS fi : Addr} {fd fdA fdB fdS fdi : FuncData} (F : Fun K "__init__" "Rule.__init__" s_Rule_ddinitdd f fd) (T : Txt K mg C) (FI : Fun K "is_integer" "is_integer" s_is_integer fi fdi) (bI : Binds K fdi ["value"] []) (mI : mg "is_integer" = some (.ref fi))
    (FA : Fun K "are_gaps" "are_gaps" s_are_gaps fA fdA) (bA : Binds K fdA ["value", "most"] []) (mA : mg "are_gaps" = some (.ref fA)) (FB : Fun K "_is_tail" "_is_tail" s_is_tail fB fdB) (bB : Binds K fdB ["value", "many"] []) (mB : mg "_is_tail" = some (.ref fB))
    (FS : Fun K "sums" "sums" s_sums fS fdS) (bS : Binds K fdS ["gaps"] []) (mS : mg "sums" = some (.ref fS)) : FnOk P w K mg base CX0 3 f fd ["self", "gaps", "tail"] (spInit C) := by
  have GA : FnOk P w K mg base CX0 2 fA fdA ["value", "most"] spAreGaps := ok_areGaps FA T FI bI mI
  have GB : FnOk P w K mg base CX0 2 fB fdB ["value", "many"] spIsTail := ok_isTail FB T FI bI mI
  have GS : FnOk P w K mg base CX0 1 fS fdS ["gaps"] spSums := ok_sums FS
  obtain ⟨t1, m1⟩ := T.mMost
  refine F.ok scInit (fun vs H Q E h => ?_) (fun cdv A outer s H vs Q E hr h => ?_)
  · obtain ⟨p, dx, a, t, gs, tl, rfl, _⟩ := h
    rfl
  · obtain ⟨p, dx, a, t, gs, tl, rfl, hp, ha, ht, okG, okT, k⟩ := h
    refine ⟨_, (pss_cons (ps_if (pt_not (pt_val (pe_call GA hr rfl mA FA.kp bA .nil pass0 (pa_cons (pv 1) (pa_cons (pe_glob (v := .int 20) rfl m1 ⟨_, rfl⟩) pa_nil))))) (pss_one ps_never) pss_nil) (pss_cons (ps_if (pt_not (pt_val (pe_call GB hr rfl mB FB.kp bB .nil pass0 (pa_cons (pv 2) (pa_cons (pe_callB call_len_seq (by rfl) T.len (by decide +kernel) (pa_cons (pv 1) pa_nil)) pa_nil))))) (pss_one ps_never) pss_nil) (pss_cons (ps_fld (pv 0) (pe_callTy call_list_of (by rfl) T.list (by decide +kernel) (pa_cons (pv 1) pa_nil)) rfl) (pss_cons (ps_fld (pv 0) (pe_callTy call_tuple_of (by rfl) T.tuple (by decide +kernel) (pa_cons (pv 2) pa_nil)) rfl) (pss_one (ps_fld (pv 0) (pe_call GS (hr.mono (by decide)) rfl mS FS.kp bS .nil pass0 (pa_cons (pe_fld (pv 0) rfl) pa_nil)) rfl)))))), ?_⟩
    refine ⟨_, rfl, a, gs, 20, rfl, ha, okG, okG.1, fun H1 S1 => ⟨true, rfl, iteF ?_⟩⟩
    refine ⟨_, rfl, _, rfl, a, _, rfl, .inl (SqL.of (S1 _ _ ha)), t, tl, gs.length, ?_, S1 _ _ ht, okT, fun H2 S2 => ⟨true, rfl, iteF ?_⟩⟩
    · rw [List.length_map]
      rfl
    have S := S1.trans S2
    refine ⟨_, rfl, a, _, rfl, .inl (SqL.of (S _ _ ha)), fun g hg2 => ?_⟩
    have hg : H g = none := S.free hg2
    have npg : p ≠ g := ne_of_none hp hg
    have ntg : t ≠ g := ne_of_none ht hg
    have nag : a ≠ g := ne_of_none ha hg
    have npt : t ≠ p := ne_of ht hp (by intro z; cases z)
    have npa : a ≠ p := ne_of ha hp (by intro z; cases z)
    refine ⟨_, rfl, p, C, dx, [], rfl, (by rw [upd_ne npg]; exact S _ _ hp), T.cl, T.nG, (by show 0 < 1000; decide), ?_⟩
    refine ⟨_, rfl, t, _, rfl, .inr ⟨SqT.of (by rw [upd_ne npt, upd_ne ntg]; exact S _ _ ht), ?_⟩⟩
    refine ⟨_, rfl, p, C, dx, _, rfl, upd_same, T.cl, T.nT, (by show 1 < 1000; decide), ?_⟩
    have hgl : (putF "_tail" (.ref t) (putF "_gaps" (.ref g) [])).lookup ("_gaps" : Str) = some (V.ref g) := by
      rw [lookup_putF, if_neg kGT, lookup_putF, if_pos rfl]
    refine ⟨_, rfl, p, C, dx, _, _, rfl, upd_same, T.cl, T.nG, hgl, ?_⟩
    refine ⟨g, gs, rfl, (by rw [upd_ne npg.symm, upd_ne npg.symm, upd_same]), (by have := okG.1; omega), fun o H3 ho S3 ho3 => ?_⟩
    have hp3 := S3 _ _ (upd_same (H := upd (upd H2 g (.lst (gs.map V.int))) p (.ins C dx (putF "_gaps" (.ref g) []))) (a := p) (o := .ins C dx (putF "_tail" (.ref t) (putF "_gaps" (.ref g) []))))
    have npo : p ≠ o := ne_of_none (upd_same (H := upd (upd H2 g (.lst (gs.map V.int))) p (.ins C dx (putF "_gaps" (.ref g) []))) (a := p)) ho
    have ngo : g ≠ o := by
      refine ne_of_none (H := upd (upd (upd H2 g (.lst (gs.map V.int))) p (.ins C dx (putF "_gaps" (.ref g) []))) p (.ins C dx (putF "_tail" (.ref t) (putF "_gaps" (.ref g) [])))) (o := .lst (gs.map V.int)) ?_ ho
      rw [upd_ne npg.symm, upd_ne npg.symm, upd_same]
    have hoH : H o = none := by
      refine S.free ?_
      rw [upd_ne npo.symm, upd_ne npo.symm, upd_ne ngo.symm] at ho
      exact ho
    refine ⟨_, rfl, p, C, dx, _, rfl, hp3, T.cl, T.nO, (by show 2 < 1000; decide), ?_⟩
    refine k g o _ hg hoH (fun b u e nb => ?_) ⟨⟨dx, upd_same⟩, ?_, ?_, ?_, okG, okT⟩
    · rw [upd_ne nb]
      refine S3 _ _ ?_
      rw [upd_ne nb, upd_ne nb, upd_ne (ne_of_none e hg)]
      exact S _ _ e
    · rw [upd_ne npg.symm]
      refine S3 _ _ ?_
      rw [upd_ne npg.symm, upd_ne npg.symm, upd_same]
    · rw [upd_ne npt]
      refine S3 _ _ ?_
      rw [upd_ne npt, upd_ne npt, upd_ne ntg]
      exact S _ _ ht
    · rw [upd_ne npo.symm]
      exact ho3

end
end RS
namespace RS
open PySem L2
section
variable {P : Program} {w : World} {K : PySem.W.Frag} {mg : Str → Option Value} {base : Heap}
/-! ### attempts, _first_repeating, period -/
def attV (gs : List Int) : Tl → V
  | .fin => .int ((gs.length : Int) + 1)
  | _ => .non
def spAtt (C : Addr) : Sp := fun vs H Q _ => ∃ (p g t o : Addr) (gs : List Int) (tl : Tl), vs = [.ref p] ∧ RuleAt C H p g t o gs tl ∧ Q (attV gs tl) H
theorem scSelf_attempts : FnScope ["self"] ["self"] (defScope s_Rule_attempts) := ⟨rfl, rfl, rfl, by decide +kernel, rfl, by decide +kernel, by decide +kernel⟩
theorem ok_attempts {f C : Addr} {fd : FuncData} (F : Fun K "attempts" "Rule.attempts" s_Rule_attempts f fd) (T : Txt K mg C) : FnOk P w K mg base CX0 1 f fd ["self"] (spAtt C) := by
  refine F.ok scSelf_attempts (fun vs H Q E h => ?_) (fun cdv A outer s H vs Q E hr h => ?_)
  · obtain ⟨p, g, t, o, gs, tl, rfl, _⟩ := h
    rfl
  · obtain ⟨p, g, t, o, gs, tl, rfl, R, k⟩ := h
    refine ⟨_, (pss_cons (ps_if (pt_cmpR op_eq (pe_ix ix_tup (pe_fld (pv 0) rfl) pe_int (fun _ _ => rfl)) pe_str (nomark _)) (pss_one (ps_ret (pe_callB call_len_seq (by rfl) T.len (by decide +kernel) (pa_cons (pe_fld (pv 0) rfl) pa_nil)))) pss_nil) (pss_one (ps_ret pe_non))), ?_⟩
    refine rdIs T R rfl ?_
    cases tl with
    | fin =>
      refine iteTb wEE ?_
      refine rdO T R rfl ⟨o, _, rfl, .inl (SqL.of R.ho), ?_⟩
      rw [List.length_map, offs_len]
      exact k
    | times b => exact iteFb wTE k
    | rep m => exact iteFb wRE k
def spFR (C : Addr) : Sp := fun vs H Q _ => ∃ (p g t o : Addr) (gs : List Int) (m : Nat), vs = [.ref p] ∧ RuleAt C H p g t o gs (.rep m) ∧ Q (.int ((gs.length - m : Nat) : Int)) H
theorem scSelf_fr : FnScope ["self"] ["self"] (defScope s_Rule_first_repeating) := ⟨rfl, rfl, rfl, by decide +kernel, rfl, by decide +kernel, by decide +kernel⟩
def frV (gs : List Int) : Tl → V
  | .rep m => .int ((gs.length - m : Nat) : Int)
  | _ => .non
def spFRA (C : Addr) : Sp := fun vs H Q _ => ∃ (p g t o : Addr) (gs : List Int) (tl : Tl), vs = [.ref p] ∧ RuleAt C H p g t o gs tl ∧ Q (frV gs tl) H
theorem ok_frA {f C : Addr} {fd : FuncData} (F : Fun K "first_repeating" "Rule.first_repeating" s_Rule_first_repeating f fd) (T : Txt K mg C) : FnOk P w K mg base CX0 1 f fd ["self"] (spFRA C) := by
  refine F.ok scSelf_fr (fun vs H Q E h => ?_) (fun cdv A outer s H vs Q E hr h => ?_)
  · obtain ⟨p, g, t, o, gs, tl, rfl, _⟩ := h
    rfl
  · obtain ⟨p, g, t, o, gs, tl, rfl, R, k⟩ := h
    refine ⟨_, (pss_cons (ps_if (pt_cmpR op_ne (pe_ix ix_tup (pe_fld (pv 0) rfl) pe_int (fun _ _ => rfl)) pe_str (nomark _)) (pss_one (ps_ret pe_non)) pss_nil) (pss_one (ps_ret (pe_op op_sub (pe_callB call_len_seq (by rfl) T.len (by decide +kernel) (pa_cons (pe_fld (pv 0) rfl) pa_nil)) (pe_ix ix_tup (pe_fld (pv 0) rfl) pe_int (fun _ _ => rfl)))))), ?_⟩
    refine rdNe T R rfl ?_
    cases tl with
    | fin => exact iteTb (congrArg not wER) k
    | times b => exact iteTb (congrArg not wTR) k
    | rep m =>
      refine iteFb (congrArg not wRR) ?_
      refine rdG T R rfl ⟨g, _, rfl, .inl (SqL.of R.hg), rdN T R rfl ⟨_, _, rfl, rfl, ?_⟩⟩
      have e : ((((gs.map V.int).length : Nat) : Int) - (m : Int)) = ((gs.length - m : Nat) : Int) := by
        have := R.okT.2
        rw [List.length_map]
        omega
      have k' : Q (.int ((gs.length - m : Nat) : Int)) H := k
      rw [← e] at k'
      exact k'
theorem ok_fr {f C : Addr} {fd : FuncData} (F : Fun K "first_repeating" "Rule.first_repeating" s_Rule_first_repeating f fd) (T : Txt K mg C) : FnOk P w K mg base CX0 1 f fd ["self"] (spFR C) := by
  refine F.ok scSelf_fr (fun vs H Q E h => ?_) (fun cdv A outer s H vs Q E hr h => ?_)
  · obtain ⟨p, g, t, o, gs, tl, rfl, _⟩ := h
    rfl
  · obtain ⟨p, g, t, o, gs, m, rfl, R, k⟩ := h
    refine ⟨_, (pss_cons (ps_if (pt_cmpR op_ne (pe_ix ix_tup (pe_fld (pv 0) rfl) pe_int (fun _ _ => rfl)) pe_str (nomark _)) (pss_one (ps_ret pe_non)) pss_nil) (pss_one (ps_ret (pe_op op_sub (pe_callB call_len_seq (by rfl) T.len (by decide +kernel) (pa_cons (pe_fld (pv 0) rfl) pa_nil)) (pe_ix ix_tup (pe_fld (pv 0) rfl) pe_int (fun _ _ => rfl)))))), ?_⟩
    refine rdNe T R rfl (iteFb (congrArg not wRR) ?_)
    refine rdG T R rfl ⟨g, _, rfl, .inl (SqL.of R.hg), rdN T R rfl ⟨_, _, rfl, rfl, ?_⟩⟩
    have e : ((((gs.map V.int).length : Nat) : Int) - (m : Int)) = ((gs.length - m : Nat) : Int) := by
      have := R.okT.2
      rw [List.length_map]
      omega
    rw [← e] at k
    exact k
end
end RS
namespace RS
open PySem L2
section
variable {P : Program} {w : World} {K : PySem.W.Frag} {mg : Str → Option Value} {base : Heap}
def perV (gs : List Int) : Tl → V
  | .rep m => .int (per gs m)
  | _ => .non
def spPer (C : Addr) : Sp := fun vs H Q _ => ∃ (p g t o : Addr) (gs : List Int) (tl : Tl), vs = [.ref p] ∧ RuleAt C H p g t o gs tl ∧ Q (perV gs tl) H
theorem scSelf_per : FnScope ["self"] ["self"] (defScope s_Rule_period) := ⟨rfl, rfl, rfl, by decide +kernel, rfl, by decide +kernel, by decide +kernel⟩
theorem ok_per {f C fR : Addr} {fd fdR : FuncData} (F : Fun K "period" "Rule.period" s_Rule_period f fd) (T : Txt K mg C) (FR : Fun K "first_repeating" "Rule.first_repeating" s_Rule_first_repeating fR fdR) (bR : Binds K fdR ["self"] []) (mR : Meth K C "first_repeating" fR) : FnOk P w K mg base CX0 2 f fd ["self"] (spPer C) := by
  have GR : FnOk P w K mg base CX0 1 fR fdR ["self"] (spFR C) := ok_fr FR T
  refine F.ok scSelf_per (fun vs H Q E h => ?_) (fun cdv A outer s H vs Q E hr h => ?_)
  · obtain ⟨p, g, t, o, gs, tl, rfl, _⟩ := h
    rfl
  · obtain ⟨p, g, t, o, gs, tl, rfl, R, k⟩ := h
    refine ⟨_, (pss_cons (ps_if (pt_cmpR op_ne (pe_ix ix_tup (pe_fld (pv 0) rfl) pe_int (fun _ _ => rfl)) pe_str (nomark _)) (pss_one (ps_ret pe_non)) pss_nil) (pss_one (ps_ret (pe_op op_sub (pe_ix ix_list (pe_fld (pv 0) rfl) (pe_un un_neg pe_int) (fun _ _ => rfl)) (pe_ix ix_list (pe_fld (pv 0) rfl) (pe_meth0 (pv 0) T.cl mR GR hr bR .nil pass0) (fun _ _ => rfl)))))), ?_⟩
    refine rdNe T R rfl ?_
    cases tl with
    | fin => exact iteTb (congrArg not wER) k
    | times b => exact iteTb (congrArg not wTR) k
    | rep m =>
      refine iteFb (congrArg not wRR) ?_
      refine rdLastO T R rfl (rdO T R rfl ?_)
      obtain ⟨dx, hob⟩ := R.ob
      refine ⟨_, rfl, p, dx, _, rfl, hob, flds_no _ _ _ (by decide +kernel) (by decide +kernel) (by decide +kernel), p, g, t, o, gs, m, rfl, R, ?_⟩
      exact ⟨o, _, _, _, rfl, rfl, SqL.of R.ho, at_map (offs_get gs (by omega)), _, _, rfl, rfl, k⟩
end
end RS
namespace RS
open PySem L2
section
variable {P : Program} {w : World} {K : PySem.W.Frag} {mg : Str → Option Value} {base : Heap}
theorem end_cmp {p : Prop} [Decidable p] {A B : Prop} (hp : ¬ p) (h : B) : if decide p = true then A else B := iteFb (decide_eq_false hp) h
/-! ### _check_attempt -/
def spCheck (C : Addr) : Sp := fun vs H Q _ => ∃ (p g t o : Addr) (gs : List Int) (tl : Tl) (n : Nat), vs = [.ref p, .int (n : Int)] ∧ RuleAt C H p g t o gs tl ∧ AttOk gs tl n ∧ Q .non H
theorem scCheck : FnScope ["self", "attempt"] ["self", "attempt"] (defScope s_Rule_check_attempt) := ⟨rfl, rfl, rfl, by decide +kernel, rfl, by decide +kernel, by decide +kernel⟩
theorem ok_check {f C fi : Addr} {fd fdi : FuncData} (F : Fun K "_check_attempt" "Rule._check_attempt" s_Rule_check_attempt f fd) (T : Txt K mg C) (FI : Fun K "is_integer" "is_integer" s_is_integer fi fdi) (bI : Binds K fdi ["value"] []) (mI : mg "is_integer" = some (.ref fi)) :
    FnOk P w K mg base CX0 2 f fd ["self", "attempt"] (spCheck C) := by
  have GI : FnOk P w K mg base CX0 1 fi fdi ["value"] spIsInt := ok_isInt FI T
  obtain ⟨t1, m1⟩ := T.mLast
  refine F.ok scCheck (fun vs H Q E h => ?_) (fun cdv A outer s H vs Q E hr h => ?_)
  · obtain ⟨p, g, t, o, gs, tl, n, rfl, _⟩ := h
    rfl
  · obtain ⟨p, g, t, o, gs, tl, n, rfl, R, ok, k⟩ := h
    refine ⟨_, (pss_cons (ps_if (PW.pt (pw_or (pt_not (pt_val (pe_call GI hr rfl mI FI.kp bI .nil pass0 (pa_cons (pv 1) pa_nil)))) (pw_or1 (pt_cmpR op_lt (pv 1) pe_int (nomark _))))) (pss_one ps_never) pss_nil) (pss_cons (ps_if (PW.pt (pw_and (pt_cmpR op_eq (pe_ix ix_tup (pe_fld (pv 0) rfl) pe_int (fun _ _ => rfl)) pe_str (nomark _)) (pw_and1 (pt_cmpR op_ge (pv 1) (pe_callB call_len_seq (by rfl) T.len (by decide +kernel) (pa_cons (pe_fld (pv 0) rfl) pa_nil)) (nomark _))))) (pss_one ps_never) pss_nil) (pss_one (ps_if (PW.pt (pw_and (pt_cmpR op_eq (pe_ix ix_tup (pe_fld (pv 0) rfl) pe_int (fun _ _ => rfl)) pe_str (nomark _)) (pw_and1 (pt_cmpR op_gt (pv 1) (pe_glob (v := .int 1000) rfl m1 ⟨_, rfl⟩) (nomark _))))) (pss_one ps_never) pss_nil)))), ?_⟩
    refine ⟨_, rfl, _, rfl, true, rfl, iteF ⟨_, rfl, _, _, rfl, rfl, _, rfl, iteFb (decide_eq_false (by omega)) ?_⟩⟩
    refine rdIs T R rfl ?_
    cases tl with
    | fin =>
      refine iteTb wEE ?_
      refine ⟨_, rfl, rdO T R rfl ⟨o, _, rfl, .inl (SqL.of R.ho), _, _, rfl, rfl, _, rfl, iteFb (decide_eq_false ?_) ?_⟩⟩
      · rw [List.length_map, offs_len]
        have : n ≤ gs.length := ok
        omega
      · exact rdIs T R rfl (iteFb wET (iteF k))
    | times b =>
      refine iteFb wTE ?_
      refine iteF ?_
      refine rdIs T R rfl (iteTb wTT ⟨_, rfl, _, _, rfl, rfl, _, rfl, iteFb (decide_eq_false ?_) k⟩)
      have : n ≤ 1000 := ok
      omega
    | rep m =>
      refine iteFb wRE ?_
      refine iteF ?_
      exact rdIs T R rfl (iteFb wRT (iteF k))
/-! ### _offset_of -/
def spOff (C : Addr) : Sp := fun vs H Q _ => ∃ (p g t o : Addr) (gs : List Int) (tl : Tl) (n : Nat), vs = [.ref p, .int (n : Int)] ∧ RuleAt C H p g t o gs tl ∧ AttOk gs tl n ∧ ∀ H', Same H H' → Q (.int (off gs tl n)) H'
theorem scOff : FnScope ["self", "attempt", "further", "factor", "periods", "rest"] ["self", "attempt"] (defScope s_Rule_offset_of) := ⟨rfl, rfl, rfl, by decide +kernel, rfl, by decide +kernel, by decide +kernel⟩
theorem ok_off {f C fR fP fW : Addr} {fd fdR fdP fdW : FuncData} (F : Fun K "_offset_of" "Rule._offset_of" s_Rule_offset_of f fd) (T : Txt K mg C) (FR : Fun K "first_repeating" "Rule.first_repeating" s_Rule_first_repeating fR fdR) (bR : Binds K fdR ["self"] []) (mR : Meth K C "first_repeating" fR)
    (FP : Fun K "period" "Rule.period" s_Rule_period fP fdP) (bP : Binds K fdP ["self"] []) (mP : Meth K C "period" fP) (FW : Fun K "_power" "_power" s_power fW fdW) (bW : Binds K fdW ["base", "exponent"] []) (mW : mg "_power" = some (.ref fW)) :
    FnOk P w K mg base CX0 3 f fd ["self", "attempt"] (spOff C) := by
  have GR : FnOk P w K mg base CX0 1 fR fdR ["self"] (spFR C) := ok_fr FR T
  have GP : FnOk P w K mg base CX0 2 fP fdP ["self"] (spPer C) := ok_per FP T FR bR mR
  have GW : FnOk P w K mg base CX0 1 fW fdW ["base", "exponent"] spPower := ok_power FW
  refine F.ok scOff (fun vs H Q E h => ?_) (fun cdv A outer s H vs Q E hr h => ?_)
  · obtain ⟨p, g, t, o, gs, tl, n, rfl, _⟩ := h
    rfl
  · obtain ⟨p, g, t, o, gs, tl, n, rfl, R, ok, k⟩ := h
    have hr1 := hr.mono (show 1 ≤ 2 by decide)
    refine ⟨_, (pss_cons (ps_if (pt_cmpR op_lt (pv 1) (pe_callB call_len_seq (by rfl) T.len (by decide +kernel) (pa_cons (pe_fld (pv 0) rfl) pa_nil)) (nomark _)) (pss_one (ps_ret (pe_ix ix_list (pe_fld (pv 0) rfl) (pv 1) (fun _ _ => rfl)))) pss_nil) (pss_cons (ps_set (i := 2) scOff.nd rfl (Or.inl rfl) (pe_op op_sub (pv 1) (pe_callB call_len_seq (by rfl) T.len (by decide +kernel) (pa_cons (pe_fld (pv 0) rfl) pa_nil)))) (pss_cons (ps_if (pt_cmpR op_eq (pe_ix ix_tup (pe_fld (pv 0) rfl) pe_int (fun _ _ => rfl)) pe_str (nomark _)) (pss_cons (ps_set (i := 3) scOff.nd rfl (Or.inl rfl) (pe_ix ix_tup (pe_fld (pv 0) rfl) pe_int (fun _ _ => rfl))) (pss_one (ps_ret (pe_op op_add (pe_ix ix_list (pe_fld (pv 0) rfl) (pe_un un_neg pe_int) (fun _ _ => rfl)) (pe_op op_fdiv (pe_op op_mul (pe_op op_mul (pe_ix ix_list (pe_fld (pv 0) rfl) (pe_un un_neg pe_int) (fun _ _ => rfl)) (pv 3)) (pe_op op_sub (pe_call GW hr1 rfl mW FW.kp bW .nil pass0 (pa_cons (pv 3) (pa_cons (pv 2) pa_nil))) pe_int)) (pe_op op_sub (pv 3) pe_int)))))) pss_nil) (pss_cons (ps_asg (pe_callB call_divmod (by rfl) T.divmod (by decide +kernel) (pa_cons (pv 2) (pa_cons (pe_ix ix_tup (pe_fld (pv 0) rfl) pe_int (fun _ _ => rfl)) pa_nil))) (pg_tup rfl (pgs_cons (pg_name (i := 4) scOff.nd rfl (Or.inl rfl)) (pgs_cons (pg_name (i := 5) scOff.nd rfl (Or.inl rfl)) pgs_nil)))) (pss_one (ps_ret (pe_op op_add (pe_ix ix_list (pe_fld (pv 0) rfl) (pe_op op_add (pe_meth0 (pv 0) T.cl mR GR hr1 bR .nil pass0) (pv 5)) (fun _ _ => rfl)) (pe_op op_mul (pe_op op_add (pv 4) pe_int) (pe_meth0 (pv 0) T.cl mP GP hr bP .nil pass0))))))))), ?_⟩
    refine ⟨_, rfl, rdO T R rfl ⟨o, _, rfl, .inl (SqL.of R.ho), _, _, rfl, rfl, _, rfl, ?_⟩⟩
    rw [List.length_map, offs_len]
    by_cases hn : n ≤ gs.length
    · refine iteTb (decide_eq_true (by omega)) ?_
      refine rdOx T R rfl ⟨_, rfl, o, _, _, _, rfl, rfl, SqL.of R.ho, at_map (offs_get gs hn), ?_⟩
      have e : off gs tl n = pre gs n := if_pos hn
      rw [← e]
      exact k H (Same.refl H)
    · refine end_cmp (by omega) ?_
      refine ⟨_, rfl, ?_⟩
      refine rdG T R rfl ⟨g, _, rfl, .inl (SqL.of R.hg), _, _, rfl, rfl, ?_⟩
      have ef : ((n : Int) - (((gs.map V.int).length : Nat) : Int)) = ((n - gs.length : Nat) : Int) := by
        rw [List.length_map]
        omega
      show tSeq _ _ _ (List.set _ 2 (some (V.int ((n : Int) - (((gs.map V.int).length : Nat) : Int))))) H
      rw [ef]
      refine rdIs T R rfl ?_
      cases tl with
      | fin => exact absurd ok hn
      | times b =>
        have hl := R.okT.1
        have hb0 := R.okT.2.1
        have hb1 := R.okT.2.2
        have hn1 : n ≤ 1000 := ok
        have hg := gap_bd R.okG (k := gs.length - 1) (by omega)
        have hg : 1 ≤ lastG gs ∧ lastG gs ≤ 1000000000000 := hg
        have hgb1 : lastG gs * b ≤ 1000000000000 * 1000 := Int.mul_le_mul hg.2 hb1 (by omega) (by omega)
        have hgb0 : 0 ≤ lastG gs * b := Int.mul_nonneg (by omega) (by omega)
        refine iteTb wTT ?_
        refine rdB T R rfl ?_
        refine rdLastO T R rfl ?_
        refine rdLast T R rfl hl ⟨_, rfl, _, _, rfl, rfl, .inl ⟨by omega, by omega⟩, ?_⟩
        refine ⟨_, rfl, _, rfl, b, n - gs.length, rfl, by omega, by omega, by omega, _, _, rfl, rfl, _, _, rfl, rfl, .inl ⟨by omega, by omega⟩, ?_⟩
        refine ⟨_, rfl, _, _, rfl, rfl, _, _, rfl, rfl, ⟨by omega, by omega⟩, _, _, rfl, rfl, ?_⟩
        have e : off gs (.times b) n = pre gs gs.length + lastG gs * b * (b ^ (n - gs.length) - 1) / (b - 1) := if_neg hn
        rw [e] at k
        exact k H (Same.refl H)
      | rep m =>
        have hm0 := R.okT.1
        have hm1 := R.okT.2
        have hp := per_bd R.okG hm0 hm1
        refine iteFb wRT ?_
        refine ⟨_, rfl, ?_⟩
        refine rdN T R rfl ⟨_, _, rfl, ⟨by omega, by have := R.okG.1; omega⟩, fun q hq => ?_⟩
        have S : Same H (upd H q (.tup [.int (((n - gs.length : Nat) : Int) / (m : Int)), .int (((n - gs.length : Nat) : Int) % (m : Int))])) := same_new hq
        have R2 := R.mono S
        refine ⟨q, _, rfl, SqT.of upd_same, rfl, _, _, rfl, _, _, rfl, rfl, ?_⟩
        obtain ⟨dx, hob⟩ := R2.ob
        have e1 : (((n - gs.length : Nat) : Int) % (m : Int)) = (((n - gs.length) % m : Nat) : Int) := rfl
        have e2 : (((n - gs.length : Nat) : Int) / (m : Int)) = (((n - gs.length) / m : Nat) : Int) := rfl
        have hr0 : (n - gs.length) % m < m := Nat.mod_lt _ (by omega)
        have nF : (flds g t o).lookup ("first_repeating" : Str) = none := flds_no _ _ _ (by decide +kernel) (by decide +kernel) (by decide +kernel)
        have nP : (flds g t o).lookup ("period" : Str) = none := flds_no _ _ _ (by decide +kernel) (by decide +kernel) (by decide +kernel)
        refine rdOx T R2 rfl ⟨_, rfl, p, dx, _, rfl, hob, nF, p, g, t, o, gs, m, rfl, R2, _, rfl, _, _, rfl, rfl, ?_⟩
        refine ⟨o, _, _, .int (pre gs (gs.length - m + (n - gs.length) % m)), rfl, rfl, SqL.of R2.ho, ?_, ?_⟩
        · rw [e1, ← Int.natCast_add]
          exact at_map (offs_get gs (by omega))
        · refine ⟨_, rfl, _, _, rfl, rfl, _, rfl, p, dx, _, rfl, hob, nP, p, g, t, o, gs, .rep m, rfl, R2, ?_⟩
          refine ⟨_, _, rfl, rfl, .inr ⟨by omega, by omega⟩, _, _, rfl, rfl, ?_⟩
          have e : off gs (.rep m) n = pre gs (gs.length - m + (n - gs.length) % m) + (((n - gs.length) / m : Nat) + 1) * per gs m := if_neg hn
          rw [e] at k
          exact k _ S
/-! ### offset -/
theorem scOffset : FnScope ["self", "attempt"] ["self", "attempt"] (defScope s_Rule_offset) := ⟨rfl, rfl, rfl, by decide +kernel, rfl, by decide +kernel, by decide +kernel⟩
theorem ok_offset {f C fC fO : Addr} {fd fdC fdO : FuncData} (F : Fun K "offset" "Rule.offset" s_Rule_offset f fd) (T : Txt K mg C) (mC : Meth K C "_check_attempt" fC) (bC : Binds K fdC ["self", "attempt"] []) (mO : Meth K C "_offset_of" fO) (bO : Binds K fdO ["self", "attempt"] [])
    (GC : FnOk P w K mg base CX0 2 fC fdC ["self", "attempt"] (spCheck C)) (GO : FnOk P w K mg base CX0 3 fO fdO ["self", "attempt"] (spOff C)) : FnOk P w K mg base CX0 4 f fd ["self", "attempt"] (spOff C) := by
  refine F.ok scOffset (fun vs H Q E h => ?_) (fun cdv A outer s H vs Q E hr h => ?_)
  · obtain ⟨p, g, t, o, gs, tl, n, rfl, _⟩ := h
    rfl
  · obtain ⟨p, g, t, o, gs, tl, n, rfl, R, ok, k⟩ := h
    refine ⟨_, (pss_cons (ps_expr (pe_meth (pv 0) T.cl mC GC (hr.mono (by decide)) bC .nil pass0 (pa_cons (pv 1) pa_nil))) (pss_one (ps_ret (pe_meth (pv 0) T.cl mO GO hr bO .nil pass0 (pa_cons (pv 1) pa_nil))))), ?_⟩
    obtain ⟨dx, hob⟩ := R.ob
    refine ⟨_, rfl, p, dx, _, rfl, hob, flds_no _ _ _ (by decide +kernel) (by decide +kernel) (by decide +kernel), _, rfl, p, g, t, o, gs, tl, n, rfl, R, ok, ?_⟩
    exact ⟨_, rfl, p, dx, _, rfl, hob, flds_no _ _ _ (by decide +kernel) (by decide +kernel) (by decide +kernel), _, rfl, p, g, t, o, gs, tl, n, rfl, R, ok, k⟩
/-! ### gap -/
def spGap (C : Addr) : Sp := fun vs H Q _ => ∃ (p g t o : Addr) (gs : List Int) (tl : Tl) (n : Nat), vs = [.ref p, .int (n : Int)] ∧ RuleAt C H p g t o gs tl ∧ AttOk gs tl n ∧ (tl = .fin → n < gs.length) ∧ Q (.int (gapf gs tl n)) H
theorem scGap : FnScope ["self", "attempt", "further"] ["self", "attempt"] (defScope s_Rule_gap) := ⟨rfl, rfl, rfl, by decide +kernel, rfl, by decide +kernel, by decide +kernel⟩
theorem ok_gap {f C fC fA fR fW : Addr} {fd fdC fdA fdR fdW : FuncData} (F : Fun K "gap" "Rule.gap" s_Rule_gap f fd) (T : Txt K mg C) (mC : Meth K C "_check_attempt" fC) (bC : Binds K fdC ["self", "attempt"] [])
    (GC : FnOk P w K mg base CX0 2 fC fdC ["self", "attempt"] (spCheck C)) (FA : Fun K "attempts" "Rule.attempts" s_Rule_attempts fA fdA) (bA : Binds K fdA ["self"] []) (mA : Meth K C "attempts" fA)
    (FR : Fun K "first_repeating" "Rule.first_repeating" s_Rule_first_repeating fR fdR) (bR : Binds K fdR ["self"] []) (mR : Meth K C "first_repeating" fR)
    (FW : Fun K "_power" "_power" s_power fW fdW) (bW : Binds K fdW ["base", "exponent"] []) (mW : mg "_power" = some (.ref fW)) : FnOk P w K mg base CX0 3 f fd ["self", "attempt"] (spGap C) := by
  have GA : FnOk P w K mg base CX0 1 fA fdA ["self"] (spAtt C) := ok_attempts FA T
  have GR : FnOk P w K mg base CX0 1 fR fdR ["self"] (spFR C) := ok_fr FR T
  have GW : FnOk P w K mg base CX0 1 fW fdW ["base", "exponent"] spPower := ok_power FW
  refine F.ok scGap (fun vs H Q E h => ?_) (fun cdv A outer s H vs Q E hr h => ?_)
  · obtain ⟨p, g, t, o, gs, tl, n, rfl, _⟩ := h
    rfl
  · obtain ⟨p, g, t, o, gs, tl, n, rfl, R, ok, okf, k⟩ := h
    have hr1 := hr.mono (show 1 ≤ 2 by decide)
    refine ⟨_, (pss_cons (ps_expr (pe_meth (pv 0) T.cl mC GC hr bC .nil pass0 (pa_cons (pv 1) pa_nil))) (pss_cons (ps_if (pt_cmpR op_eq (pe_op op_add (pv 1) pe_int) (pe_meth0 (pv 0) T.cl mA GA hr1 bA .nil pass0) (nomark _)) (pss_one ps_never) pss_nil) (pss_cons (ps_if (pt_cmpR op_lt (pv 1) (pe_callB call_len_seq (by rfl) T.len (by decide +kernel) (pa_cons (pe_fld (pv 0) rfl) pa_nil)) (nomark _)) (pss_one (ps_ret (pe_ix ix_list (pe_fld (pv 0) rfl) (pv 1) (fun _ _ => rfl)))) pss_nil) (pss_cons (ps_set (i := 2) scGap.nd rfl (Or.inl rfl) (pe_op op_sub (pv 1) (pe_callB call_len_seq (by rfl) T.len (by decide +kernel) (pa_cons (pe_fld (pv 0) rfl) pa_nil)))) (pss_cons (ps_if (pt_cmpR op_eq (pe_ix ix_tup (pe_fld (pv 0) rfl) pe_int (fun _ _ => rfl)) pe_str (nomark _)) (pss_one (ps_ret (pe_op op_mul (pe_ix ix_list (pe_fld (pv 0) rfl) (pe_un un_neg pe_int) (fun _ _ => rfl)) (pe_call GW hr1 rfl mW FW.kp bW .nil pass0 (pa_cons (pe_ix ix_tup (pe_fld (pv 0) rfl) pe_int (fun _ _ => rfl)) (pa_cons (pe_op op_add (pv 2) pe_int) pa_nil)))))) pss_nil) (pss_one (ps_ret (pe_ix ix_list (pe_fld (pv 0) rfl) (pe_op op_add (pe_meth0 (pv 0) T.cl mR GR hr1 bR .nil pass0) (pe_op op_mod (pv 2) (pe_ix ix_tup (pe_fld (pv 0) rfl) pe_int (fun _ _ => rfl)))) (fun _ _ => rfl))))))))), ?_⟩
    obtain ⟨dx, hob⟩ := R.ob
    have nF : (flds g t o).lookup ("first_repeating" : Str) = none := flds_no _ _ _ (by decide +kernel) (by decide +kernel) (by decide +kernel)
    have nA : (flds g t o).lookup ("attempts" : Str) = none := flds_no _ _ _ (by decide +kernel) (by decide +kernel) (by decide +kernel)
    refine ⟨_, rfl, p, dx, _, rfl, hob, flds_no _ _ _ (by decide +kernel) (by decide +kernel) (by decide +kernel), _, rfl, p, g, t, o, gs, tl, n, rfl, R, ok, ?_⟩
    refine ⟨_, rfl, _, _, rfl, rfl, _, rfl, p, dx, _, rfl, hob, nA, p, g, t, o, gs, tl, rfl, R, ?_⟩
    have hsc : scal (V.int ((n : Int) + 1)) (attV gs tl) = true := by cases tl <;> rfl
    have hne : decide (V.int ((n : Int) + 1) = attV gs tl) = false := by
      cases tl with
      | fin =>
        have := okf rfl
        refine decide_eq_false fun e => ?_
        have := V.int.inj e
        omega
      | times b => exact decide_eq_false fun e => by cases e
      | rep m => exact decide_eq_false fun e => by cases e
    refine ⟨hsc, _, rfl, iteFb hne ?_⟩
    refine ⟨_, rfl, rdG T R rfl ⟨g, _, rfl, .inl (SqL.of R.hg), _, _, rfl, rfl, _, rfl, ?_⟩⟩
    rw [List.length_map]
    by_cases hn : n < gs.length
    · refine iteTb (decide_eq_true (by omega)) ?_
      refine rdGx T R rfl ⟨_, rfl, g, _, _, _, rfl, rfl, SqL.of R.hg, at_map (getD_get hn), ?_⟩
      have e : gapf gs tl n = gs.getD n 0 := if_pos hn
      rw [← e]
      exact k
    · refine end_cmp (by omega) ?_
      refine ⟨_, rfl, ?_⟩
      refine rdG T R rfl ⟨g, _, rfl, .inl (SqL.of R.hg), _, _, rfl, rfl, ?_⟩
      have ef : ((n : Int) - (((gs.map V.int).length : Nat) : Int)) = ((n - gs.length : Nat) : Int) := by
        rw [List.length_map]
        omega
      show tSeq _ _ _ (List.set _ 2 (some (V.int ((n : Int) - (((gs.map V.int).length : Nat) : Int))))) H
      rw [ef]
      refine rdIs T R rfl ?_
      cases tl with
      | fin => exact absurd (okf rfl) hn
      | times b =>
        have hl := R.okT.1
        have hb0 := R.okT.2.1
        have hb1 := R.okT.2.2
        have hn1 : n ≤ 1000 := ok
        have hg := gap_bd R.okG (k := gs.length - 1) (by omega)
        have hg : 1 ≤ lastG gs ∧ lastG gs ≤ 1000000000000 := hg
        refine iteTb wTT ?_
        refine rdLast T R rfl hl ?_
        refine rdB T R rfl ⟨_, rfl, _, _, rfl, rfl, b, n - gs.length + 1, ?_, by omega, by omega, by omega, _, _, rfl, rfl, .inl ⟨by omega, by omega⟩, ?_⟩
        · rfl
        · have e : gapf gs (.times b) n = lastG gs * b ^ (n - gs.length + 1) := if_neg hn
          rw [e] at k
          exact k
      | rep m =>
        have hm0 := R.okT.1
        have hm1 := R.okT.2
        have hr0 : (n - gs.length) % m < m := Nat.mod_lt _ (by omega)
        refine iteFb wRT ?_
        refine rdGx T R rfl ⟨_, rfl, p, dx, _, rfl, hob, nF, p, g, t, o, gs, m, rfl, R, _, rfl, ?_⟩
        refine rdN T R rfl ⟨_, _, rfl, rfl, by omega, _, _, rfl, rfl, ?_⟩
        refine ⟨g, _, _, .int (gs.getD (gs.length - m + (n - gs.length) % m) 0), rfl, rfl, SqL.of R.hg, ?_, ?_⟩
        · rw [← Int.natCast_emod, ← Int.natCast_add]
          exact at_map (getD_get (by omega))
        · have e : gapf gs (.rep m) n = gs.getD (gs.length - m + (n - gs.length) % m) 0 := if_neg hn
          rw [e] at k
          exact k
end
end RS
namespace RS
open PySem L2
/-! ### the law's own source of numbers -/
/-- all but what stands at a is as it was -/
def Kx (a : Addr) (H H' : Hp) : Prop := ∀ c u, c ≠ a → H c = some u → H' c = some u
theorem Kx.refl (a : Addr) (H : Hp) : Kx a H H := fun _ _ _ h => h
theorem Kx.trans {a : Addr} {H H1 H2 : Hp} (x : Kx a H H1) (y : Kx a H1 H2) : Kx a H H2 := fun c u n h => y c u n (x c u n h)
theorem Kx.of {a : Addr} {H H' : Hp} (x : Same H H') : Kx a H H' := fun c u _ h => x c u h
theorem Kx.upd {a : Addr} {H : Hp} {o : HO} : Kx a H (upd H a o) := fun c u n h => by
  rw [upd_ne n]
  exact h
theorem Kx.free {a : Addr} {H H' : Hp} (x : Kx a H H') {p : Addr} (n : p ≠ a) (h : H' p = none) : H p = none := by
  cases q : H p with
  | none => rfl
  | some o =>
    rw [x p o n q] at h
    cases h
structure Src (H : Hp) (a : Addr) (b : Nat) : Prop where
  ex : ∃ s0 s1 s2 : Int, H a = some (.lst [.int s0, .int s1, .int s2]) ∧ 0 ≤ s0 ∧ 0 ≤ s1 ∧ s1 < 2147483647 ∧ 0 ≤ s2 ∧ s2 ≤ b
theorem Src.mono {H H' : Hp} {a : Addr} {b : Nat} (h : Src H a b) (e : Same H H') : Src H' a b := by
  obtain ⟨s0, s1, s2, h1, h2⟩ := h.ex
  exact ⟨s0, s1, s2, e _ _ h1, h2⟩
theorem Src.le {H : Hp} {a : Addr} {b c : Nat} (h : Src H a b) (e : b ≤ c) : Src H a c := by
  obtain ⟨s0, s1, s2, h1, h2, h3, h4, h5, h6⟩ := h.ex
  exact ⟨s0, s1, s2, h1, h2, h3, h4, h5, by omega⟩
theorem Src.new {H : Hp} {a : Addr} {b : Nat} (h : Src H a b) {p : Addr} (hp : H p = none) : a ≠ p := by
  obtain ⟨s0, s1, s2, h1, _⟩ := h.ex
  exact ne_of_none h1 hp
section
variable {P : Program} {w : World} {K : PySem.W.Frag} {mg : Str → Option Value} {base : Heap}
def spSrcOf : Sp := fun vs H Q _ => ∃ c : Int, vs = [.int c] ∧ ∀ a H', H a = none → Same H H' → Src H' a 0 → Q (.ref a) H'
theorem scSrcOf : FnScope ["_law_cell"] ["_law_cell"] (defScope s_law_source_of) := ⟨rfl, rfl, rfl, by decide +kernel, rfl, by decide +kernel, by decide +kernel⟩
theorem ok_srcOf {f C : Addr} {fd : FuncData} (F : Fun K "_law_source_of" "_law_source_of" s_law_source_of f fd) (T : Txt K mg C) : FnOk P w K mg base CX0 1 f fd ["_law_cell"] spSrcOf := by
  refine F.ok scSrcOf (fun vs H Q E h => ?_) (fun cdv A outer s H vs Q E hr h => ?_)
  · obtain ⟨c, rfl, _⟩ := h
    rfl
  · obtain ⟨c, rfl, k⟩ := h
    refine ⟨_, (pss_one (ps_ret (pe_lst (pa_cons (pe_op op_mul (pv 0) (pe_callTy call_int1 (by rfl) T.int (by decide +kernel) (pa_cons (pe_cmpR op_ge (pv 0) (pe_op op_pow pe_int pe_int) (nomark _)) pa_nil))) (pa_cons (pe_op op_mod (pe_callTy call_int1 (by rfl) T.int (by decide +kernel) (pa_cons (pv 0) pa_nil)) pe_int) (pa_cons pe_int pa_nil)))))), ?_⟩
    refine ⟨_, rfl, _, rfl, _, _, rfl, rfl, ⟨by decide, by decide, by decide⟩, _, _, rfl, rfl, .inr ⟨_, rfl, ?_⟩⟩
    refine ⟨_, _, rfl, rfl, .inr ?_, _, rfl, .inl ⟨_, rfl, _, _, rfl, rfl, (by show (0 : Int) < 2147483647; decide), (by show 3 ≤ sizeLine; decide), fun a ha => ?_⟩⟩
    · by_cases hc : (10 : Int) ^ (18 : Int).toNat ≤ c
      · rw [decide_eq_true hc]; decide
      · rw [decide_eq_false hc]; decide
    · refine k a _ ha (same_new ha) ⟨_, _, _, upd_same, ?_, Int.emod_nonneg _ (by decide), Int.emod_lt_of_pos _ (by decide), by decide, by decide⟩
      by_cases hc : (10 : Int) ^ (18 : Int).toNat ≤ c
      · have e : (10 : Int) ^ (18 : Int).toNat = 1000000000000000000 := by decide
        rw [decide_eq_true hc]
        show 0 ≤ c * 1
        omega
      · rw [decide_eq_false hc]
        show 0 ≤ c * 0
        omega
def spNext : Sp := fun vs H Q _ => ∃ (a : Addr) (m : Int) (b : Nat), vs = [.ref a, .int m] ∧ Src H a b ∧ b ≤ 100000 ∧ 1 ≤ m ∧ m < 2 ^ 200 ∧ ∀ r H', 0 ≤ r → r < m → Kx a H H' → Src H' a (b + 1) → Q (.int r) H'
theorem scNext : FnScope ["_law_source", "_law_bound", "_law_result", "_law_prime", "_law_mixed"] ["_law_source", "_law_bound"] (defScope s_law_draw) := ⟨rfl, rfl, rfl, by decide +kernel, rfl, by decide +kernel, by decide +kernel⟩
theorem prime_at {s : Int} (h : 0 ≤ s) : ∃ pr : Int, atI [V.int 2147483647, V.int 2147483629, V.int 2147483587, V.int 2147483579, V.int 2147483563, V.int 2147483549, V.int 2147483543] (s % 7) = some (.int pr) ∧ 1 ≤ pr ∧ pr ≤ 2147483647 := by
  have h1 : s % 7 = 0 ∨ s % 7 = 1 ∨ s % 7 = 2 ∨ s % 7 = 3 ∨ s % 7 = 4 ∨ s % 7 = 5 ∨ s % 7 = 6 := by omega
  rcases h1 with h1 | h1 | h1 | h1 | h1 | h1 | h1 <;> rw [h1] <;> exact ⟨_, rfl, by decide, by decide⟩
theorem ok_next {f C : Addr} {fd : FuncData} (F : Fun K "_law_draw" "_law_draw" s_law_draw f fd) (T : Txt K mg C) : FnOk P w K mg base CX0 1 f fd ["_law_source", "_law_bound"] spNext := by
  refine F.ok scNext (fun vs H Q E h => ?_) (fun cdv A outer s H vs Q E hr h => ?_)
  · obtain ⟨a, m, b, rfl, _⟩ := h
    rfl
  · obtain ⟨a, m, b, rfl, S, hb, hm1, hm2, k⟩ := h
    obtain ⟨s0, s1, s2, ha, h0, h1, h1', h2, h2'⟩ := S.ex
    refine ⟨_, (pss_cons (ps_if (pt_cmpR op_gt (pe_ix ix_list (pv 0) pe_int (fun _ _ => rfl)) pe_int (nomark _)) (pss_cons (ps_set (i := 2) scNext.nd rfl (Or.inl rfl) (pe_op op_mod (pe_callTy call_int1 (by rfl) T.int (by decide +kernel) (pa_cons (pe_ix ix_list (pv 0) pe_int (fun _ _ => rfl)) pa_nil)) (pv 1))) (pss_cons (ps_asg (pe_op op_fdivW (pe_ix ix_list (pv 0) pe_int (fun _ _ => rfl)) (pv 1)) (pg_sub (pv 0) pe_int set_list)) (pss_one (ps_ret (pv 2))))) pss_nil) (pss_cons (ps_asg (pe_op op_add (pe_ix ix_list (pv 0) pe_int (fun _ _ => rfl)) pe_int) (pg_sub (pv 0) pe_int set_list)) (pss_cons (ps_set (i := 3) scNext.nd rfl (Or.inl rfl) (pe_ix ix_list (pe_lst (pa_cons pe_int (pa_cons pe_int (pa_cons pe_int (pa_cons pe_int (pa_cons pe_int (pa_cons pe_int (pa_cons pe_int pa_nil)))))))) (pe_op op_mod (pe_callTy call_int1 (by rfl) T.int (by decide +kernel) (pa_cons (pe_ix ix_list (pv 0) pe_int (fun _ _ => rfl)) pa_nil)) pe_int) (fun _ _ => rfl))) (pss_cons (ps_set (i := 4) scNext.nd rfl (Or.inl rfl) (pe_op op_mod (pe_callTy call_int1 (by rfl) T.int (by decide +kernel) (pa_cons (pe_op op_pow (pe_op op_add (pe_op op_add (pe_ix ix_list (pv 0) pe_int (fun _ _ => rfl)) (pe_op op_mul pe_int (pe_ix ix_list (pv 0) pe_int (fun _ _ => rfl)))) pe_int) pe_int) pa_nil)) (pv 3))) (pss_cons (ps_set (i := 4) scNext.nd rfl (Or.inl rfl) (pe_op op_mod (pe_callTy call_int1 (by rfl) T.int (by decide +kernel) (pa_cons (pe_op op_mul (pe_op op_add (pv 4) (pe_ix ix_list (pv 0) pe_int (fun _ _ => rfl))) (pe_op op_add (pe_op op_fdiv (pv 4) pe_int) pe_int)) pa_nil)) (pv 3))) (pss_one (ps_ret (pe_op op_mod (pe_callTy call_int1 (by rfl) T.int (by decide +kernel) (pa_cons (pe_op op_fdiv (pv 4) pe_int) pa_nil)) (pv 1))))))))), ?_⟩
    refine ⟨_, rfl, a, _, _, _, rfl, rfl, SqL.of ha, atI_nat (j := 0) rfl, _, _, rfl, rfl, _, rfl, ?_⟩
    by_cases hz : 0 < s0
    · refine iteTb (decide_eq_true hz) ?_
      refine ⟨_, rfl, a, _, _, _, rfl, rfl, SqL.of ha, atI_nat (j := 0) rfl, .inl ⟨_, rfl, _, rfl, _, _, rfl, rfl, by omega, ?_⟩⟩
      refine ⟨_, rfl, a, _, _, _, rfl, rfl, SqL.of ha, atI_nat (j := 0) rfl, _, rfl, _, _, rfl, rfl, wide_div (by omega) (b := 200) (by omega) (by decide) (by decide), _, rfl, a, _, _, 0, rfl, rfl, ha, rfl, ?_⟩
      refine ⟨_, rfl, k _ _ (Int.emod_nonneg _ (by omega)) (Int.emod_lt_of_pos _ (by omega)) Kx.upd ⟨s0 / m, s1, s2, upd_same, Int.ediv_nonneg h0 (by omega), h1, h1', h2, by omega⟩⟩
    · refine iteFb (decide_eq_false hz) ?_
      refine ⟨_, rfl, a, _, _, _, rfl, rfl, SqL.of ha, atI_nat (j := 2) rfl, _, _, rfl, rfl, _, rfl, a, _, _, 2, rfl, rfl, ha, rfl, ?_⟩
      refine ⟨by show 7 ≤ sizeLine; decide, fun l hl => ?_⟩
      have hal : (upd (upd H a (.lst [.int s0, .int s1, .int (s2 + 1)])) l (.lst [.int 2147483647, .int 2147483629, .int 2147483587, .int 2147483579, .int 2147483563, .int 2147483549, .int 2147483543])) a = some (.lst [.int s0, .int s1, .int (s2 + 1)]) := by
        rw [upd_ne (ne_of_none upd_same hl)]
        exact upd_same
      obtain ⟨pr, hpr, hp1, hp2⟩ := prime_at (s := s2 + 1) (by omega)
      refine ⟨_, rfl, a, _, _, _, rfl, rfl, SqL.of hal, atI_nat (j := 2) rfl, .inl ⟨_, rfl, _, _, rfl, rfl, (by show (0 : Int) < 7; decide), l, _, _, _, rfl, rfl, SqL.of upd_same, hpr, ?_⟩⟩
      refine ⟨_, rfl, a, _, _, _, rfl, rfl, SqL.of hal, atI_nat (j := 1) rfl, _, rfl, a, _, _, _, rfl, rfl, SqL.of hal, atI_nat (j := 2) rfl, _, _, rfl, rfl, .inl ⟨by decide, by decide⟩, _, _, rfl, rfl, _, _, rfl, rfl, _, _, rfl, rfl, ⟨by decide, by decide, by omega⟩, .inl ⟨_, rfl, _, rfl, _, _, rfl, rfl, by omega, ?_⟩⟩
      generalize hf : (s1 + 7919 * (s2 + 1) + 1) ^ (5 : Int).toNat % pr = fg
      have f0 : 0 ≤ fg := by rw [← hf]; exact Int.emod_nonneg _ (by omega)
      have f1 : fg < pr := by rw [← hf]; exact Int.emod_lt_of_pos _ (by omega)
      refine ⟨_, rfl, _, rfl, a, _, _, _, rfl, rfl, SqL.of hal, atI_nat (j := 2) rfl, _, _, rfl, rfl, _, rfl, _, _, rfl, rfl, ⟨by decide, by decide⟩, _, _, rfl, rfl, _, _, rfl, rfl, .inl ⟨by omega, by omega⟩, .inl ⟨_, rfl, _, rfl, _, _, rfl, rfl, by omega, ?_⟩⟩
      refine ⟨_, rfl, _, _, rfl, rfl, ⟨by decide, by decide⟩, .inl ⟨_, rfl, _, rfl, _, _, rfl, rfl, by omega, ?_⟩⟩
      refine k _ _ (Int.emod_nonneg _ (by omega)) (Int.emod_lt_of_pos _ (by omega)) (fun c u n e => ?_) ⟨s0, s1, s2 + 1, hal, h0, h1, h1', by omega, by omega⟩
      have e2 : (upd H a (.lst [.int s0, .int s1, .int (s2 + 1)])) c = some u := by
        rw [upd_ne n]
        exact e
      rw [upd_ne (ne_of_none e2 hl)]
      exact e2
def spOne : Sp := fun vs H Q _ => ∃ (a q : Addr) (xs : List V) (b : Nat), vs = [.ref a, .ref q] ∧ Src H a b ∧ b ≤ 100000 ∧ q ≠ a ∧ H q = some (.lst xs) ∧ 0 < xs.length ∧ xs.length < 1000 ∧ ∀ x H', x ∈ xs → Kx a H H' → Src H' a (b + 1) → Q x H'
theorem scOne : FnScope ["_law_source", "_law_options"] ["_law_source", "_law_options"] (defScope s_law_choice) := ⟨rfl, rfl, rfl, by decide +kernel, rfl, by decide +kernel, by decide +kernel⟩
theorem ok_one {f C fN : Addr} {fd fdN : FuncData} (F : Fun K "_law_choice" "_law_choice" s_law_choice f fd) (T : Txt K mg C) (FN : Fun K "_law_draw" "_law_draw" s_law_draw fN fdN) (bN : Binds K fdN ["_law_source", "_law_bound"] []) (mN : mg "_law_draw" = some (.ref fN)) :
    FnOk P w K mg base CX0 2 f fd ["_law_source", "_law_options"] spOne := by
  have GN : FnOk P w K mg base CX0 1 fN fdN ["_law_source", "_law_bound"] spNext := ok_next FN T
  refine F.ok scOne (fun vs H Q E h => ?_) (fun cdv A outer s H vs Q E hr h => ?_)
  · obtain ⟨a, q, xs, b, rfl, _⟩ := h
    rfl
  · obtain ⟨a, q, xs, b, rfl, S, hb, hne, hq, hx0, hx1, k⟩ := h
    refine ⟨_, (pss_one (ps_ret (pe_ix ix_list (pv 1) (pe_call GN hr rfl mN FN.kp bN .nil pass0 (pa_cons (pv 0) (pa_cons (pe_callB call_len_seq (by rfl) T.len (by decide +kernel) (pa_cons (pv 1) pa_nil)) pa_nil))) (fun _ _ => rfl)))), ?_⟩
    refine ⟨_, rfl, _, rfl, _, rfl, q, _, rfl, .inl (SqL.of hq), a, (xs.length : Int), b, rfl, S, hb, by omega, by omega, fun r H' r0 r1 kx S' => ?_⟩
    obtain ⟨j, rfl⟩ : ∃ j : Nat, r = (j : Int) := ⟨r.toNat, by omega⟩
    have hj : j < xs.length := by omega
    exact ⟨q, _, _, _, rfl, rfl, SqL.of (kx _ _ hne hq), atI_nat (List.getElem?_eq_getElem hj), k _ _ (List.getElem_mem hj) kx S'⟩
def spCell (K : PySem.W.Frag) : Sp := fun vs H Q _ => ∃ (a : Addr) (ns : List Int), vs = [.ref a, .int 0] ∧ SqL K H a (ns.map V.int) ∧ Q (.int (ns.getD 0 0)) H
theorem scCell : FnScope ["_law_script", "_law_index"] ["_law_script", "_law_index"] (defScope s_law_cell_at) := ⟨rfl, rfl, rfl, by decide +kernel, rfl, by decide +kernel, by decide +kernel⟩
theorem ok_cell {f C : Addr} {fd : FuncData} (F : Fun K "_law_cell_at" "_law_cell_at" s_law_cell_at f fd) (T : Txt K mg C) : FnOk P w K mg base CX0 1 f fd ["_law_script", "_law_index"] (spCell K) := by
  refine F.ok scCell (fun vs H Q E h => ?_) (fun cdv A outer s H vs Q E hr h => ?_)
  · obtain ⟨a, ns, rfl, _⟩ := h
    rfl
  · obtain ⟨a, ns, rfl, hs, k⟩ := h
    refine ⟨_, (pss_cons (ps_if (pt_cmpR op_lt (pv 1) (pe_callB call_len_seq (by rfl) T.len (by decide +kernel) (pa_cons (pv 0) pa_nil)) (nomark _)) (pss_one (ps_ret (pe_ix ix_list (pv 0) (pv 1) (fun _ _ => rfl)))) pss_nil) (pss_one (ps_ret pe_int))), ?_⟩
    refine ⟨_, rfl, _, rfl, a, _, rfl, .inl hs, _, _, rfl, rfl, _, rfl, ?_⟩
    rw [List.length_map]
    cases ns with
    | nil => exact iteFb (by decide) k
    | cons n r =>
      refine iteTb (decide_eq_true (by rw [List.length_cons]; omega)) ?_
      exact ⟨_, rfl, _, rfl, a, _, _, _, rfl, rfl, hs, atI_nat (j := 0) rfl, k⟩
end
end RS
/-! ### own errors with one field, over ArithmeticError -/
namespace ErX
open PySem PySem.W PySem.Calls PyProof.Rows PySem.HandSPX
def iA (fl : Str) (p1 p2 : Pos) : Arguments := { posonlyargs := [], args := [{ arg := "self", annotation := none, pos := p1 }, { arg := fl, annotation := none, pos := p2 }], vararg := none, kwonlyargs := [], kw_defaults := [], kwarg := none, defaults := [] }
def iB (fl : Str) (q1 q2 q3 q4 : Pos) : List Stmt := [.Assign [.Attribute (.Name "self" q1) fl q2] (.Name fl q3) q4]
def iS (fl : Str) : Scope := { kind := .function, names := [(PySem.Str.ofString "self", .local), (fl, .local)], isGenerator := false, isCoroutine := false, more := [] }
/-- what the written part says of the class cn, at C, of its field fl and of its __init__, at fI -/
structure ErTxt (K : Frag) (mg : Str → Option Value) (cn qn fl : Str) (C fI : Addr) : Prop where
  gC : mg cn = some (.ref C)
  cls : ∃ nm q N bs bm sn sub ab col dd k0 k1 k2 k3 k5, K.lookup C = some (excClassObj nm q C N bs bm true sn sub ab col dd k0 k1 k2 k3 k5 "ArithmeticError.__new__") ∧ (∀ X : String, bm.contains (.type X) = [Value.type "ArithmeticError", .type "Exception", .type "BaseException", .type "object"].contains (.type X))
  sa : findIn K (.ref C) "__setattr__" = some (some (.builtin "object.__setattr__"))
  ga : findIn K (.ref C) "__getattribute__" = some (some (.builtin "BaseException.__getattribute__"))
  gg : findIn K (.ref C) "__getattr__" = some none
  noN : findIn K (.ref C) fl = some none
  ov : excOver K C [Value.type "ArithmeticError", .type "Exception", .type "BaseException", .type "object"] = true
  tN : takerIn K C fl = some none
  iC : findIn K (.ref C) "__init__" = some (some (.ref fI))
  tC : typeIn K (.ref fI) = some (.type "function")
  kC : keepIn K (.ref C) = true
  exC : subIn K (.ref C) (.type "BaseException") = some true
  tyC : typeIn K (.ref C) = some (.type "type")
  hdC : hasDictIn K C = true
  fn : ∃ (oc : Value) (od : Option Addr) (doc pm : Value) (an : Option Addr) (cdv ct : Value) (osl : Array (Option Value)) (p1 p2 q1 q2 q3 q4 : Pos),
    K.lookup fI = some ⟨oc, od, .func (fnOf "__init__" qn (iA fl p1 p2) (iB fl q1 q2 q3 q4) (iS fl) .none .none doc pm an cdv ct), osl⟩ ∧ codeIn K cdv qn = true
  ne : (fl == ("self" : Str)) = false
  bd : ∀ (doc pm cdv ct a v : Value) (an : Option Addr) (p1 p2 q1 q2 q3 q4 : Pos), PySem.bindArgs (fnOf "__init__" qn (iA fl p1 p2) (iB fl q1 q2 q3 q4) (iS fl) .none .none doc pm an cdv ct) { pos := [a, v] } = pure [(("self" : Str), a), (fl, v)]
  nc : (cn == ("__debug__" : Str)) = false
  nd : (fl == ("__debug__" : Str)) = false
  al : ∀ a v : Value, ([(("self" : Str), a), (fl, v)].all fun y => List.lookup y.fst (iS fl).names == some NameKind.local || List.lookup y.fst (iS fl).names == some NameKind.cell) = true
  bs : ∀ (L a : Addr) (cd x v : Value), bindL (envOfC qn (iS fl) L a cd).kindOf [(("self" : Str), x), (fl, v)] (fun _ => none) "self" = some x
  bv : ∀ (L a : Addr) (cd x v : Value), bindL (envOfC qn (iS fl) L a cd).kindOf [(("self" : Str), x), (fl, v)] (fun _ => none) fl = some v
section
open Builtin Builtin.ObjectAttr
variable {prog : Program} {w : World} {A : Around} {R : Result → Shared → Prop} {hp : Heap} {g : Array GenState} {d : Drawn} {t : Nat} {os : OsState} {K : Frag} {name : Str} {tk : Tok} {v : Value} {x C dx : Addr} {fv : Array Value} {cd : ClassData}
/-- the first field of an error -/
theorem ar_osa (X : K.In hp) (hx : hp.get? x = some { cls := .ref C, data := .fields fv }) (ov : excOver K C [Value.type "ArithmeticError", .type "Exception", .type "BaseException", .type "object"] = true) (ht : takerIn K C name = some none) (hcd : clsIn K C = some cd) (hh : cd.hasDict = true)
    (hq : ∀ h' tk' dx, (∀ b o, b ≠ x → hp.get? b = some o → h'.get? b = some o) ∧ hp.objs.size ≤ dx ∧ dx ≠ x ∧ h'.get? x = some { cls := .ref C, dict := some dx, data := .fields fv } ∧ h'.Ns1 dx (fun y => if y = name then some v else none) →
      R (.ok (.ret .none)) ⟨h', g, d, tk', os⟩) :
    codeAny (model prog w) A (.call (.builtin "object.__setattr__") ⟨[.ref x, .str name tk, v], []⟩) R ⟨hp, g, d, t, os⟩ := by
  have J : InstAt hp x { cls := .ref C, data := .fields fv } C none := ⟨hx, rfl, rfl, trivial⟩
  refine osa_openX PySem.F.store_ArithmeticError X J ov ht fun b => ?_
  have hxs : x ≠ hp.objs.size := Nat.ne_of_lt (Heap.lt_size hx)
  have lc : Looks (model prog w) hp (classData C) cd := looks_clsIn X hcd
  obtain ⟨nm, bs, mro, ns, qn, hd, sn, sb, ab, col, del⟩ := cd
  obtain rfl : hd = true := hh
  dsimp only
  unfold storeInOwnDict ownDictForStores
  repeat first
    | with_reducible refine store_in_new ?_ ?_
    | with_reducible refine wpAny_loadPart_at hx ?_
    | with_reducible refine lc.at ?_
    | wp_step
  · have en : (hp.push { cls := Value.type "dict", data := Data.dict #[] }).Ns hp.objs.size fun _ => none := Heap.Ns.new hp (Value.type "dict")
    exact en.at fun o e => by
      rw [Heap.get?_update_ne _ _ _ _ hxs.symm]
      exact e
  · intro h' tk' hn' hs
    have up : ∀ b o, hp.get? b = some o → (hp.push { cls := Value.type "dict", data := Data.dict #[] }).get? b = some o := fun b o e => Heap.get?_push_of_some _ e
    refine hq h' tk' hp.objs.size ⟨fun b o hb ho => ?_, Nat.le_refl _, hxs.symm, ?_, hn'⟩
    · have lt : b ≠ hp.objs.size := Nat.ne_of_lt (Heap.lt_size ho)
      rw [hs.2 b lt, Heap.get?_update_ne _ _ _ _ hb]
      exact up b o ho
    · rw [hs.2 x hxs]
      exact Heap.get?_update_self _ (up x _ hx) rfl
/-- a further field -/
theorem ar_osa2 {m0 : Str → Option Value} {nl : List Str} (X : K.In hp) (hx : hp.get? x = some { cls := .ref C, dict := some dx, data := .fields fv }) (hns : hp.Ns1 dx m0) (hw : Within m0 nl) (hz : nl.length ≤ 1000) (ov : excOver K C [Value.type "ArithmeticError", .type "Exception", .type "BaseException", .type "object"] = true)
    (ht : takerIn K C name = some none) (hcd : clsIn K C = some cd) (hh : cd.hasDict = true)
    (hq : ∀ h' tk', (∀ b o, b ≠ dx → hp.get? b = some o → h'.get? b = some o) ∧ h'.Ns1 dx (fun y => if y = name then some v else m0 y) → R (.ok (.ret .none)) ⟨h', g, d, tk', os⟩) :
    codeAny (model prog w) A (.call (.builtin "object.__setattr__") ⟨[.ref x, .str name tk, v], []⟩) R ⟨hp, g, d, t, os⟩ := by
  obtain ⟨oD, esD, epD, hoD, hdD, _⟩ := hns.count hw
  have J : InstAt hp x { cls := .ref C, dict := some dx, data := .fields fv } C (some oD) := ⟨hx, rfl, rfl, hoD⟩
  refine osa_openX PySem.F.store_ArithmeticError X J ov ht fun b => ?_
  have lc : Looks (model prog w) hp (classData C) cd := looks_clsIn X hcd
  obtain ⟨nm, bs, mro, ns, qn, hd, sn, sb, ab, col, del⟩ := cd
  obtain rfl : hd = true := hh
  dsimp only
  unfold storeInOwnDict ownDictForStores
  repeat first
    | with_reducible refine PySem.OEX.store_in_old hns hw hz ?_
    | with_reducible refine wpAny_loadPart_at hx ?_
    | with_reducible refine lc.at ?_
    | wp_step
  intro h' tk' hn' hs
  refine hq h' tk' ⟨fun b o hb ho => ?_, hn'⟩
  rw [hs.2 b hb]
  exact ho
end
theorem one_size (v : Value) : [v].length ≤ sizeLine := by
  rw [sizeLine_eq]
  exact (by decide : 1 ≤ 16777216)
theorem ldC {M : Model} {s : Shared} {name : Str} {scope : Scope} {L a : Addr} {cd : Value} {m : Str → Option Value} {x : Str} {pos : Pos} {v : Value} {Q : Value → Shared → Prop} {A : Around} {E : Value → Shared → Prop} (hn : s.heap.Ns L m) (hv : m x = some v) (h : Q v s)
    (hk : scope.kind = .function := by rfl) (hl : (envOfC name scope L a cd).kindOf x = some .local := by rfl) (hd : (x == ("__debug__" : Str)) = false := by decide) :
    wpAny M A (eval (.Name x pos) (envOfC name scope L a cd)) Q E s := wpAny_Name (wpAny_loadName_local hk hl hn hv h) hd
/-- what __init__ leaves of a fresh exception at x -/
structure InitEnd (fl : Str) (h h' : Heap) (x C dx t1 : Addr) (v : Value) : Prop where
  keep : ∀ b o, b ≠ x → h.get? b = some o → h'.get? b = some o
  obj : h'.get? x = some { cls := .ref C, dict := some dx, data := .fields #[.ref t1, .none, .none, .none, .bool false, .none] }
  dbig : h.objs.size ≤ dx
  dne : dx ≠ x
  ns : h'.Ns1 dx (fun y => if y = fl then some v else none)
/-- a made error -/
structure OwnMade (fl : Str) (h h' : Heap) (e C d : Addr) (v : Value) : Prop where
  keep : ∀ b o, h.get? b = some o → h'.get? b = some o
  new : h.objs.size ≤ e
  obj : ∃ oe vs, h'.get? e = some oe ∧ oe.cls = .ref C ∧ oe.dict = some d ∧ oe.data = .fields vs ∧ vs[1]? = some .none
  dbig : h.objs.size ≤ d
  dne : d ≠ e
  ns : h'.Ns1 d (fun y => if y = fl then some v else none)
section
variable {prog : Program} {w : World} {A : Around} {E : Value → Shared → Prop} {R : Result → Shared → Prop} {s : Shared} {K : Frag} {mg : Str → Option Value} {cn qn fl : Str} {C fI : Addr}
theorem kind_self {name : Str} {L a : Addr} {cd : Value} : (envOfC name (iS fl) L a cd).kindOf "self" = some .local := by
  first | rfl | with_unfolding_all rfl | kernel_rfl
theorem kind_fl (ne : (fl == ("self" : Str)) = false) {name : Str} {L a : Addr} {cd : Value} : (envOfC name (iS fl) L a cd).kindOf fl = some .local := by
  show List.lookup fl [(PySem.Str.ofString "self", NameKind.local), (fl, .local)] = some .local
  have ne' : (fl == PySem.Str.ofString "self") = false := ne
  have sf : (fl == fl) = true := by simp
  simp only [List.lookup, ne', sf]
theorem er_init (T : ErTxt K mg cn qn fl C fI) {x t0 : Addr} {v : Value} (X : K.In s.heap) (hlim : s.heap.NoLimit) (hx : s.heap.get? x = some (excO C t0)) (_hnx : K.lookup x = none) (hroom : A.depth < recursionLimit)
    (hq : ∀ h' tk dx, InitEnd fl s.heap h' x C dx t0 v → R (.ok (.ret .none)) { s with heap := h', toks := tk }) :
    codeAny (model prog w) A (.call (.ref fI) ⟨[.ref x, v], []⟩) R s := by
  obtain ⟨oc, od, doc, pm, an, cdv, ct, osl, p1, p2, q1, q2, q3, q4, ho, hcd⟩ := T.fn
  obtain ⟨nm, q, N, bs, bm, sn, sub, ab, col, dd, k0, k1, k2, k3, k5, hC, hbT⟩ := T.cls
  have hcl : clsIn K C = some { name := nm, bases := bs, mro := .ref C :: bm, ns := N, qualname := q, hasDict := true, slotNames := sn, subclasses := sub, abstract := ab, collection := col, hasDel := false } := by unfold clsIn; rw [hC] <;> rfl
  refine Att.call_fn (binds := [("self", .ref x), (fl, v)]) X hlim ho hcd hroom (BindsTo.of_eq (T.bd _ _ _ _ _ _ _ _ _ _ _ _ _)) (T.al _ _) (fun s₁ IC => ?_) rfl rfl rfl
  obtain ⟨h₁, tk₁, rfl⟩ := IC.toInCall.same
  have k : ∀ b o, s.heap.get? b = some o → h₁.get? b = some o := IC.toInCall.keep
  have hn := IC.toInCall.ns
  have hxL : s.heap.objs.size ≠ x := Nat.ne_of_gt (Heap.lt_size hx)
  have X₁ : K.In h₁ := X.keeps k
  have hx₁ := k _ _ hx
  show wpAny _ _ (execs _ _) _ _ _
  refine wpAny_execs_cons (plainObj_wpAny_Assign_Attribute ?_)
  refine ldC (v := v) hn (T.bv _ _ _ _ _) (ldC (v := .ref x) hn (T.bs _ _ _ _ _) ?_ rfl kind_self) rfl (kind_fl T.ne) T.nd
  refine set_plain X₁ (ox := excO C t0) (od := none) ⟨hx₁, rfl, rfl, trivial⟩ T.sa ?_
  refine ar_osa X₁ hx₁ T.ov T.tN hcl rfl (fun h₃ tk₃ dx ⟨k₃, dn, dne, hx₃, hn₃⟩ => ?_)
  show wpAny _ _ (execs _ _) _ _ _
  have z : s.heap.objs.size < h₁.objs.size := hn.lt
  exact wpAny_execs_nil (hq h₃ tk₃ dx ⟨fun b o hb e => k₃ b o hb (k b o e), hx₃, Nat.le_of_lt (Nat.lt_of_lt_of_le z dn), dne, hn₃⟩)
theorem er_made (T : ErTxt K mg cn qn fl C fI) {v : Value} (X : K.In s.heap) (hlim : s.heap.NoLimit) (hroom : A.depth + 1 < recursionLimit)
    (hq : ∀ h' tk e d, OwnMade fl s.heap h' e C d v → R (.ok (.ret (.ref e))) { s with heap := h', toks := tk }) :
    codeAny (model prog w) A (.call (.ref C) ⟨[v], []⟩) R s := by
  obtain ⟨nm, q, N, bs, bm, sn, sub, ab, col, dd, k0, k1, k2, k3, k5, hC, hbT⟩ := T.cls
  obtain ⟨hp, g, dr, tk, os⟩ := s
  have k : ∀ b o, hp.get? b = some o → ((hp.push (kdv_tup [v])).push (excO C hp.objs.size)).get? b = some o := fun b o e => Heap.get?_push_of_some _ (Heap.get?_push_of_some _ e)
  have hget : ((hp.push (kdv_tup [v])).push (excO C hp.objs.size)).get? (hp.objs.size + 1) = some (excO C hp.objs.size) := by heap_get
  have hnx : K.lookup (hp.objs.size + 1) = none := by
    cases e : K.lookup (hp.objs.size + 1) with
    | none => rfl
    | some o =>
      have z : hp.get? (hp.objs.size + 1) = some o := X _ _ e
      exact absurd (Nat.lt_of_succ_lt (Heap.lt_size z)) (Nat.lt_irrefl _)
  refine call_own F.excBase_ArithmeticError hbT (X _ _ hC) (looks_findIn X T.iC) (fun self => bind_fn X self T.tC) (one_size v) ?_
  refine er_init (s := ⟨(hp.push (kdv_tup [v])).push (excO C hp.objs.size), g, dr, tk, os⟩) T (X.keeps k) (hlim.keeps k) hget hnx ?_ fun h' tk' dx ⟨k', hx, dn, dne, hns⟩ => ?_
  · show A.depth + 1 < recursionLimit
    exact hroom
  · have old : ∀ b o, hp.get? b = some o → h'.get? b = some o := fun b o e => k' b o (Nat.ne_of_lt (Nat.lt_succ_of_lt (Heap.lt_size e))) (k b o e)
    have z : hp.objs.size + 1 + 1 ≤ dx := by
      first
        | (simpa only [Heap.size_push] using dn)
        | exact dn
        | (have q := dn; rw [Heap.size_push, Heap.size_push] at q; exact q)
    exact ⟨rfl, hq h' tk' (hp.objs.size + 1) dx ⟨old, Nat.le_succ _, ⟨_, _, hx, rfl, rfl, rfl, rfl⟩, Nat.le_trans (Nat.le_trans (Nat.le_succ _) (Nat.le_succ _)) z, dne, hns⟩⟩
end
end ErX
namespace L2
open PySem PySem.Spec PyProof.Rows
theorem relO_er {v : V} {v' : Value} (fl : Str) (r : RelV v v') (f : Str) : RelO (List.lookup f [(fl, v)]) (if f = fl then some v' else none) := by
  by_cases hw : f = fl
  · subst hw
    rw [if_pos rfl]
    have q : List.lookup f [(f, v)] = some v := by simp [List.lookup]
    rw [q]
    exact r
  · rw [if_neg hw]
    have qw : (f == fl) = false := by simpa using hw
    have q2 : List.lookup f [(fl, v)] = none := by simp [List.lookup, qw]
    rw [q2]
    trivial
section
variable {X : Cx} {cn qn fl : Str} {C fI : Addr}
/-- cn(e) -/
def tMkEr (fl : Str) (C : Addr) (ta : TA) : St → Hp → XK → Prop := fun σ H Q => ta σ H fun vs H1 => ∃ v, vs = [v] ∧ ∀ d, H1 d = none → Q (.ref C) (some d) (upd H1 d (.xd [(fl, v)]))
theorem pmk_er {a : Expr} {ta : TA} {p pos : Pos} {k : Nat} (T : ErX.ErTxt X.K X.mg cn qn fl C fI) (hr : Room k X.A) (ha : PA X [a] ta) (hg : Gl X cn := by rfl)
    (he : starEach (a :: []) X.env = (false, eval a X.env) :: starEach [] X.env := by rfl) (hpl : (backTo pos (starEach [] X.env)).any (·.1) = false := by rfl) :
    PMk X (.Call (.Name cn p) [a] [] pos) (tMkEr fl C ta) := by
  intro pins s σ H Q I h
  refine wpAny_Call_Name_kw (ld_glob I hg T.gC ?_ T.nc)
  refine PySem.W.callWith_K (h₀ := X.base) I.ok.mod.kin T.kC (thn (ha.run pos pins s σ H _ I h) fun us s1 hh => ?_) he hpl
  obtain ⟨vs, H1, I1, r1, v, ev, q1⟩ := hh
  subst ev
  refine ⟨I1.kIn, ?_⟩
  cases r1 with
  | cons rv rn =>
    rename_i v' us'
    cases rn
    show wpAny _ _ (call (.ref C) [v']) _ _ _
    have hlim := I1.nolimit
    obtain ⟨hp, g, dr, tk, os⟩ := s1
    refine wpAny_call (ErX.er_made T I1.kIn hlim (by have := hr.dp; omega) fun h' tk' e d M => ?_)
    show MkP X pins σ Q (.ref e) ⟨h', g, dr, tk', os⟩
    obtain ⟨oe, fv, hoe, hc, hd, hdat, h1⟩ := M.obj
    have hns := M.ns
    obtain ⟨G', g1, g2⟩ := restrict h' fun b => decide (b ≠ e)
    have gk : ∀ b, b ≠ e → G'.get? b = h'.get? b := fun b hb => g1 b (decide_eq_true hb)
    have ge : G'.get? e = none := g2 e (by simp)
    have old : ∀ b o, hp.get? b = some o → G'.get? b = some o := fun b o q => (gk b (Nat.ne_of_lt (Nat.lt_of_lt_of_le (Heap.lt_size q) M.new))).trans (M.keep b o q)
    have ob : ObjOk X.prog X.w (upd H1 d (.xd [(fl, v)])) G' d (.xd [(fl, v)]) :=
      ⟨_, hns.at (fun o q => (gk d M.dne).trans q), fun f => relO_er fl rv f⟩
    have J : Inv X pins σ (upd H1 d (.xd [(fl, v)])) ⟨G', g, dr, tk', os⟩ := I1.laid (t' := tk') old M.dbig ob
    refine ⟨e, oe, fv, ⟨G', g, dr, tk', os⟩, _, .ref C, some d, rfl, J, fun b o q => ?_, ge, hoe, ⟨hc, hd⟩, hdat, h1, ?_, rfl, I1.bare, raises_own T.exC T.tyC, q1 d (I1.hok.fresh M.dbig)⟩
    · by_cases hb : b = e
      · have q' : G'.get? b = some o := q
        rw [hb, ge] at q'; cases q'
      · exact (gk b hb).symm.trans q
    · rw [upd_ne (Ne.symm M.dne)]
      exact I1.hok.fresh M.new
/-- raise cn(e) -/
def tRaiseEr (fl : Str) (C : Addr) (W : WX) (ta : TA) : TS := fun _ σ H => tMkEr fl C ta σ H fun cls d H' => W cls d σ H'
theorem ps_raiseEr {a : Expr} {ta : TA} {W : WX} {p pos pos2 : Pos} {k : Nat} (hc : X.calm = true) (T : ErX.ErTxt X.K X.mg cn qn fl C fI) (hr : Room k X.A) (tk : Takes X W) (ha : PA X [a] ta) (hg : Gl X cn := by rfl)
    (he : starEach (a :: []) X.env = (false, eval a X.env) :: starEach [] X.env := by rfl) (hpl : (backTo pos (starEach [] X.env)).any (·.1) = false := by rfl) :
    PS X (.Raise (some (.Call (.Name cn p) [a] [] pos)) none pos2) (tRaiseEr fl C W ta) := ps_raise hc tk (pmk_er T hr ha hg he hpl)
/-- e.fl, e the exception that the suite holds (at a; its class cls, its dict d) -/
def tByEr (fl : Str) (C : Addr) (a : Addr) (cls : Value) (d : Option Addr) (te : TE) : TE := fun σ H Q => te σ H fun x H1 => x = .ref a ∧ cls = .ref C ∧ ∃ (dd : Addr) (v : V), d = some dd ∧ H1 dd = some (.xd [(fl, v)]) ∧ Q v H1
theorem pe_byEr {a : Addr} {oe : Obj} {cls : Value} {d : Option Addr} {pn : List (Addr × Obj)} {e : Expr} {te : TE} {pos : Pos} (T : ErX.ErTxt X.K X.mg cn qn fl C fI) (hz : Zc cls d oe) (hf : ∃ vs, oe.data = .fields vs) (he : PE (X.suite a ((a, oe) :: pn)) e te)
    (hb : attributeBase e fl X.env (eval e X.env) = eval e X.env := by rfl) :
    PE (X.suite a ((a, oe) :: pn)) (.Attribute e fl pos) (tByEr fl C a cls d te) := by
  refine ⟨fun pins s σ H Q I h => ?_⟩
  refine attr_of hb (thn (he.run pins s σ H _ I h) fun u s1 hh => ?_)
  obtain ⟨x, H1, I1, rx, ex, ec, dd, v, ed, ea, q⟩ := hh
  subst ex
  obtain rfl : u = Value.ref a := rx
  subst ec
  subst ed
  obtain ⟨ha, _⟩ := I1.pin (a, oe) (List.mem_append_left _ List.mem_cons_self)
  obtain ⟨vs, hd⟩ := hf
  have hx : ObjOk X.prog X.w H1 s1.heap dd (.xd [(fl, v)]) := I1.hok dd _ ea
  obtain ⟨mA, hns, hr⟩ := hx
  obtain ⟨od, ho, hl⟩ := lookIn_ns hns
  have l : List.lookup fl [(fl, v)] = some v := by simp [List.lookup]
  obtain ⟨u, hu, ru⟩ := RelO.some_of (v := v) (o := mA fl) (by rw [← l]; exact hr fl)
  have J : PySem.W.InstAt s1.heap a oe C (some od) := ⟨ha, hz.1, by unfold PySem.W.notCls; rw [hd] <;> rfl, by rw [hz.2]; exact ho⟩
  exact HandSPX.exc_get I1.kIn J T.ga T.gg T.exC (PySem.W.findObj_own T.hdC T.noN rfl (by rw [hl, hu])) (handed_of ru) ⟨v, H1, I1.tok _, ru, q⟩
end
end L2
/-! ### the caught error in the suite: isinstance, its fields -/
namespace L2
open PySem PySem.Spec PyProof.Rows
/-- D is an error's class whose instances are asked plainly -/
structure ErCls (K : PySem.W.Frag) (D : Addr) : Prop where
  cl : (PySem.W.clsIn K D).isSome = true
  ga : PySem.W.findIn K (.ref D) "__getattribute__" = some (some (.builtin "BaseException.__getattribute__"))
  gg : PySem.W.findIn K (.ref D) "__getattr__" = some none
  sb : PySem.W.subIn K (.ref D) (.type "BaseException") = some true
  hd : PySem.W.hasDictIn K D = true
  ca : PySem.W.findIn K (.ref D) "__class__" = some (some (.builtin "object.__class__"))
  cn : PySem.W.specialIn K (.builtin "object.__class__") "__get__" = some (some (.builtin "getset_descriptor.__get__"))
  ct : PySem.W.takesIn K (.builtin "object.__class__") = some true
  cm : PySem.W.mroIn K D (.type "object") = some true
/-- the error held at a is of the class D, its fields stand in the dict at dd -/
structure Held (H : Hp) (cls : Value) (d : Option Addr) (D dd : Addr) (fs : List (Str × V)) : Prop where
  ec : cls = .ref D
  ed : d = some dd
  ho : H dd = some (.xd fs)
section
variable {X : Cx} {a : Addr} {oe : Obj} {cls : Value} {d : Option Addr} {pn : List (Addr × Obj)}
theorem held_at {pins : List (Addr × Obj)} {σ : St} {H : Hp} {s : Shared} {D dd : Addr} {fs : List (Str × V)} (hz : Zc cls d oe) (hf : ∃ vs, oe.data = .fields vs) (I : Inv (X.suite a ((a, oe) :: pn)) pins σ H s) (h : Held H cls d D dd fs) :
    ∃ od, PySem.W.InstAt s.heap a oe D (some od) ∧ ∀ fl : Str, ∃ o, PySem.W.lookIn fl od = some o ∧ RelO (fs.lookup fl) o := by
  obtain ⟨ec, ed, ho⟩ := h
  obtain ⟨ha, _⟩ := I.pin (a, oe) (List.mem_append_left _ List.mem_cons_self)
  obtain ⟨vs, hd⟩ := hf
  obtain ⟨mA, hns, hr⟩ := (show ObjOk X.prog X.w H s.heap dd (.xd fs) from I.hok dd _ ho)
  obtain ⟨od, hod, hl⟩ := lookIn_ns hns
  refine ⟨od, ⟨ha, by rw [hz.1, ec], by unfold PySem.W.notCls; rw [hd] <;> rfl, by rw [hz.2, ed]; exact hod⟩, fun fl => ⟨mA fl, ?_, hr fl⟩⟩
  rw [hl]
/-- isinstance(e, c) -/
def rIsEr (K : PySem.W.Frag) (a : Addr) (cls : Value) (d : Option Addr) : List V → Hp → VK → Prop := fun xs H Q =>
  ∃ (D dd : Addr) (fs : List (Str × V)) (c : V) (cv : Value) (b : Bool), Held H cls d D dd fs ∧ ErCls K D ∧ xs = [.ref a, c] ∧ (∀ u, RelV c u → u = cv) ∧ PySem.W.kitOne K (.ref D) cv = some b ∧ Q (.bl b) H
theorem call_isEr (hz : Zc cls d oe) (hf : ∃ vs, oe.data = .fields vs) : CallR (X.suite a ((a, oe) :: pn)) (.builtin "isinstance") (rIsEr X.K a cls d) := by
  rintro pins s σ H xs us Q I r ⟨D, dd, fs, c, cv, b, hh, C, rfl, hcv, e, q⟩
  obtain ⟨od, J, _⟩ := held_at hz hf I hh
  match us, r with
  | [u1, u2], .cons r1 (.cons r2 .nil) =>
    obtain rfl : u1 = Value.ref a := r1
    obtain rfl := hcv _ r2
    refine PySem.W.kia_one (PySem.W.kitx_exc C.cl C.ga C.gg C.sb C.ca C.cn C.ct C.cm) I.kIn J e (by intro z; cases z) fun tk => ?_
    exact ⟨.bl b, H, I.kept (t' := tk) fun _ _ z => z, rfl, q⟩
/-- e.fl -/
def tByX (K : PySem.W.Frag) (fl : Str) (a : Addr) (cls : Value) (d : Option Addr) (te : TE) : TE := fun σ H Q => te σ H fun x H1 =>
  ∃ (D dd : Addr) (fs : List (Str × V)) (v : V), x = .ref a ∧ Held H1 cls d D dd fs ∧ ErCls K D ∧ PySem.W.findIn K (.ref D) fl = some none ∧ fs.lookup fl = some v ∧ Q v H1
theorem pe_byX {fl : Str} {e : Expr} {te : TE} {pos : Pos} (hz : Zc cls d oe) (hf : ∃ vs, oe.data = .fields vs) (he : PE (X.suite a ((a, oe) :: pn)) e te)
    (hb : attributeBase e fl X.env (eval e X.env) = eval e X.env := by rfl) :
    PE (X.suite a ((a, oe) :: pn)) (.Attribute e fl pos) (tByX X.K fl a cls d te) := by
  refine ⟨fun pins s σ H Q I h => attr_of hb (thn (he.run pins s σ H _ I h) fun u s1 hh => ?_)⟩
  obtain ⟨x, H1, I1, rx, D, dd, fs, v, rfl, hd, C, no, hv, q⟩ := hh
  obtain rfl : u = Value.ref a := rx
  obtain ⟨od, J, hl⟩ := held_at hz hf I1 hd
  obtain ⟨o, ho, hr⟩ := hl fl
  obtain ⟨u, rfl, ru⟩ := RelO.some_of (v := v) (o := o) (by rw [← hv]; exact hr)
  exact HandSPX.exc_get I1.kIn J C.ga C.gg C.sb (PySem.W.findObj_own C.hd no rfl ho) (handed_of ru) ⟨v, H1, I1.tok _, ru, q⟩
end
end L2
/-! ### isinstance and clauses by the classes' own facts -/
namespace L2
open PySem PySem.Spec PyProof.Rows
section
variable {K : PySem.W.Frag} {C D : Addr} {b : Bool}
theorem kit_cls_of (hc : (PySem.W.clsIn K D).isSome = true) (ht : PySem.W.typeIn K (.ref D) = some (.type "type")) (hs : PySem.W.subIn K (.ref C) (.ref D) = some b) : PySem.W.kitCls K (.ref C) (.ref D) = some b := by
  show (if ((PySem.W.clsIn K D).isSome && PySem.W.typeIn K (.ref D) == some (.type "type")) = true then PySem.W.subIn K (.ref C) (.ref D) else none) = some b
  rw [hc, ht, if_pos (by rfl)]
  exact hs
theorem kit_own (hc : (PySem.W.clsIn K D).isSome = true) (ht : PySem.W.typeIn K (.ref D) = some (.type "type")) (hs : PySem.W.subIn K (.ref C) (.ref D) = some b) (hn : C ≠ D) : PySem.W.kitOne K (.ref C) (.ref D) = some b := by
  have e : (Value.ref C == Value.ref D) = false := Bool.eq_false_iff.mpr fun z => hn (Value.ref.inj (beq_iff_eq.mp z))
  unfold PySem.W.kitOne
  rw [if_neg (by rw [e]; decide)]
  exact kit_cls_of hc ht hs
theorem kit_self : PySem.W.kitOne K (.ref C) (.ref C) = some true := if_pos (beq_self_eq_true _)
theorem kit_bltn {T : String} (hm : PySem.W.kitMeta T = true) (hs : PySem.W.subIn K (.ref C) (.type T) = some b) : PySem.W.kitOne K (.ref C) (.type T) = some b := by
  have e : (Value.ref C == Value.type T) = false := Bool.eq_false_iff.mpr fun z => by cases (beq_iff_eq.mp z)
  unfold PySem.W.kitOne
  rw [if_neg (by rw [e]; decide)]
  show (if PySem.W.kitMeta T = true then PySem.W.subIn K (.ref C) (.type T) else none) = some b
  rw [if_pos hm]
  exact hs
theorem exm_own (h1 : PySem.W.subIn K (.ref D) (.type "BaseException") = some true) (hc : (PySem.W.clsIn K D).isSome = true) (ht : PySem.W.typeIn K (.ref D) = some (.type "type")) (hs : PySem.W.subIn K (.ref C) (.ref D) = some b) : PySem.W.exmOne K (.ref C) (.ref D) = some b := by
  unfold PySem.W.exmOne
  rw [h1, if_pos (by rfl)]
  exact kit_cls_of hc ht hs
end
end L2
namespace LamX
open PySem PySem.Spec PyProof.Rows L2
section
variable {X : Cx}
theorem takes_len {X : Cx} {W : WX} (t : Takes X W) : Takes X (fun cls d σ H => σ.length = X.N.length → W cls d σ H) := by
  rintro u s' ⟨a, B, sI, pins, σ, H, cls, d, e, I, nb, up, sky, na, os, ag, w⟩
  exact t u s' ⟨a, B, sI, pins, σ, H, cls, d, e, I, nb, up, sky, na, os, ag, w I.len⟩
/-- told: try: a() / except e as n: suite / rest -/
def TSaid (K : PySem.W.Frag) (CS : Addr) (i : Nat) (Ng : List Str) (ts : Addr → Value → Option Addr → TS) (tr : TS) : (XK → Hp → VK → Prop) → Hp → VK → Prop := fun tl H Q => ∀ f : Addr,
  tl (fun cls d H' => ∃ b, PySem.W.exmOne K cls (.ref CS) = some b ∧ (b = true → ∀ (a : Addr) (σ : L2.St), H' a = none → σ.length = Ng.length →
      ts a cls d { nx := fun σ' H2 => tr { nx := fun _ H3 => Q .non H3, rt := Q } (σ'.set i none) H2, rt := Q } (σ.set i (some (.ref a))) H') ∧ (b = false → False)) H
    (fun _ H' => tr { nx := fun _ H3 => Q .non H3, rt := Q } (L2.start Ng [.ref f]) H')
theorem said_gives {Ng : List Str} {x a e n q : Str} {sg : Scope} {g CS : Addr} {cdg : Value} {i : Nat} {p1 p2 p3 p4 p5 p6 : Pos} {b₀ : Stmt} {suite rest : List Stmt} {ts : Addr → Value → Option Addr → TS} {tr : TS}
    (hge : sg.names.lookup e = some .globalImplicit) (hme : X.mg e = some (.ref CS)) (hde : (e == ("__debug__" : Str)) = false) (hN : Ng.Nodup) (hi : Ng[i]? = some n) (hln : sg.names.lookup n = some .local) (h0 : ∀ f : Addr, (L2.start Ng [V.ref f])[0]? = some (some (V.ref f)))
    (hsu : ∀ (s : Shared) (H : Hp) (a : Addr) (oe : Obj) (cls : Value) (d : Option Addr) (pn : List (Addr × Obj)), Zc cls d oe → (∃ vs, oe.data = .fields vs) →
      PSs ((cxOf C8.CX0 X.prog X.w X.K X.mg X.base Ng x sg g cdg X.A X.stack s H C8.E0).nox.suite a ((a, oe) :: pn)) (b₀ :: suite) (ts a cls d))
    (hre : ∀ (s : Shared) (H : Hp), PSs (cxOf C8.CX0 X.prog X.w X.K X.mg X.base Ng x sg g cdg X.A X.stack s H C8.E0).nox rest tr)
    (hsw : ∀ (s : Shared) (H : Hp) (pn : List (Addr × Obj)) (xe : Value → Shared → Prop), swapsWith (.Call (.Name a p1) [] [] p2) none p3.line ((cxOf C8.CX0 X.prog X.w X.K X.mg X.base Ng x sg g cdg X.A X.stack s H C8.E0).nox.tr pn xe).env = pure false := by intros; rfl) :
    GivesTo X Ng x sg g cdg (.Try [.Expr (.Call (.Name a p1) [] [] p2) p3] [.ExceptHandler (some (.Name e p4)) (some n) (b₀ :: suite) p5] [] [] p6 :: rest) a q (TSaid X.K CS i Ng ts tr) := by
  intro f c' s H Q tl act hc h
  have hgl : Gl (cxOf C8.CX0 X.prog X.w X.K X.mg X.base Ng x sg g cdg X.A X.stack s H C8.E0).nox e := hge
  refine ⟨_, pss_cons (ps_try_as (X := (cxOf C8.CX0 X.prog X.w X.K X.mg X.base Ng x sg g cdg X.A X.stack s H C8.E0).nox) (c := .ref CS) (i := i)
      (tb := fun W D σ H => ∃ Ech : XK, (∀ cls d (σ' : L2.St) H', Ech cls d H' → σ'.length = Ng.length → W cls d σ' H') ∧ σ[0]? = some (some (.ref f)) ∧ H c' = some (CodeO c' q) ∧ tl Ech H (fun _ H' => D.nx σ H'))
      rfl rfl hN hi hln ⟨hgl, hde, .inl hme⟩ LamX.takes0 (fun W pn xe tk _ => ?_) (fun a oe cls d pn hz hf => hsu s H a oe cls d pn hz hf)) (hre s H), ?_⟩
  · refine ⟨fun pins s' σ H' D I h' => ?_⟩
    obtain ⟨Ech, hW, h1, h2, h3⟩ := h'
    have hp := act _ pn xe Ech p1 p2 (takes_len tk) (fun cls d σ' H' z hl => hW cls d σ' H' z hl)
    have hq := pss_one (ps_expr (pos := p3) hp (hsw s H pn xe))
    exact hq.run pins s' σ H' D I ⟨h1, h2, h3⟩
  · exact ⟨fun cls d H' => ∃ b, PySem.W.exmOne X.K cls (.ref CS) = some b ∧ (b = true → ∀ (a : Addr) (σ : L2.St), H' a = none → σ.length = Ng.length →
      ts a cls d { nx := fun σ' H2 => tr { nx := fun _ H3 => Q .non H3, rt := Q } (σ'.set i none) H2, rt := Q } (σ.set i (some (.ref a))) H') ∧ (b = false → False), fun cls d σ' H' ⟨b, e1, e2, e3⟩ hl => ⟨b, e1, fun hb a ha => e2 hb a σ' ha hl, fun hb => e3 hb⟩, h0 f, hc, h f⟩
end
end LamX
namespace RS
open PySem L2
/-! ### what is no integer, and the defs of a rule that raise -/
/-- a value whose type is known and is no int -/
def OddV (K : PySem.W.Frag) (H : Hp) (x : V) : Prop := ∃ tn : String, TyX K H x (.type tn) ∧ (tn = "bool" ∨ kitB tn "int" = some false)
section
variable {P : Program} {w : World} {K : PySem.W.Frag} {mg : Str → Option Value} {base : Heap}
def spIsAny (K : PySem.W.Frag) : Sp := fun vs H Q _ => ∃ x, vs = [x] ∧ ((∃ i, x = .int i ∧ Q (.bl true) H) ∨ (OddV K H x ∧ Q (.bl false) H))
theorem ok_isAny {f C : Addr} {fd : FuncData} (F : Fun K "is_integer" "is_integer" s_is_integer f fd) (T : Txt K mg C) : FnOk P w K mg base CX0 1 f fd ["value"] (spIsAny K) := by
  refine F.ok scIsInt (fun vs H Q E h => ?_) (fun cdv A outer s H vs Q E hr h => ?_)
  · obtain ⟨x, rfl, _⟩ := h
    rfl
  · obtain ⟨x, rfl, k⟩ := h
    refine ⟨_, pss_one (ps_ret (pe_and (pe_callB call_isi (by rfl) T.isi (by decide +kernel) (pa_cons (pv 0) (pa_cons (pe_bltn (v := .ty "int") (by rfl) T.int (by decide +kernel) rfl) pa_nil))) (pe_one (pe_not (pe_callB call_isi (by rfl) T.isi (by decide +kernel) (pa_cons (pv 0) (pa_cons (pe_bltn (v := .ty "bool") (by rfl) T.bool (by decide +kernel) rfl) pa_nil))))))), ?_⟩
    rcases k with ⟨i, rfl, k⟩ | ⟨⟨tn, ty, k2⟩, k⟩
    · refine ⟨_, rfl, _, _, _, _, _, rfl, .ty _, .base (.int i), kit_ty (r := true) (by decide +kernel), true, rfl, ?_⟩
      exact iteT ⟨_, rfl, _, _, _, _, _, rfl, .ty _, .base (.int i), kit_ty (r := false) (by decide +kernel), false, rfl, k⟩
    · rcases k2 with rfl | k2
      · refine ⟨_, rfl, _, _, _, _, _, rfl, .ty _, ty, kit_ty (r := true) (by decide +kernel), true, rfl, ?_⟩
        exact iteT ⟨_, rfl, _, _, _, _, _, rfl, .ty _, ty, kit_ty (r := true) (by decide +kernel), true, rfl, k⟩
      · exact ⟨_, rfl, _, _, _, _, _, rfl, .ty _, ty, kit_ty (r := false) k2, false, rfl, iteF k⟩
/-- an attempt that is refused: the class and the field -/
def Refused (K : PySem.W.Frag) (H : Hp) (gs : List Int) (tl : Tl) (x : V) : Prop := OddV K H x ∨ ∃ i, x = .int i ∧ (i < 0 ∨ (tl = .fin ∧ (gs.length : Int) < i))
structure Ers (K : PySem.W.Frag) (mg : Str → Option Value) (CA fA CL fL : Addr) : Prop where
  ea : ErX.ErTxt K mg "InvalidAttempt" "InvalidAttempt.__init__" "attempt" CA fA
  el : ErX.ErTxt K mg "LimitExceeded" "LimitExceeded.__init__" "limit" CL fL
/-- a call is refused with the field v of an error of the class at C -/
def Out (H : Hp) (E : XK) (C : Addr) (fl : Str) (v : V) : Prop := ∀ d H', H d = none → Same H H' → H' d = some (.xd [(fl, v)]) → E (.ref C) (some d) H'
theorem out_of {H : Hp} {E : XK} {C : Addr} {fl : Str} {v : V} (o : Out H E C fl v) : ∀ d, H d = none → E (.ref C) (some d) (upd H d (.xd [(fl, v)])) := fun d hd => o d _ hd (same_new hd) upd_same
def spChkR (K : PySem.W.Frag) (C CA CL : Addr) : Sp := fun vs H Q E => ∃ (p g t o : Addr) (gs : List Int) (tl : Tl) (x : V), vs = [.ref p, x] ∧ RuleAt C H p g t o gs tl ∧
  ((Refused K H gs tl x ∧ Out H E CA "attempt" x) ∨ (∃ n : Nat, x = .int (n : Int) ∧ (AttOk gs tl n → Q .non H) ∧ (∀ b, tl = .times b → 1000 < n → Out H E CL "limit" (.int 1000)) ∧ (tl = .fin → n ≤ gs.length)))
theorem ok_chkR {f C fi CA fA CL fL : Addr} {fd fdi : FuncData} (F : Fun K "_check_attempt" "Rule._check_attempt" s_Rule_check_attempt f fd) (T : Txt K mg C) (X : Ers K mg CA fA CL fL) (FI : Fun K "is_integer" "is_integer" s_is_integer fi fdi) (bI : Binds K fdi ["value"] []) (mI : mg "is_integer" = some (.ref fi)) :
    FnOk P w K mg base (L2.CX P w) 3 f fd ["self", "attempt"] (spChkR K C CA CL) := by
  have GI : FnOk P w K mg base CX0 1 fi fdi ["value"] (spIsAny K) := ok_isAny FI T
  obtain ⟨t1, m1⟩ := T.mLast
  refine F.okX scCheck (fun vs H Q E h => ?_) (fun cdv A outer s H vs Q E hr h => ?_)
  · obtain ⟨p, g, t, o, gs, tl, x, rfl, _⟩ := h
    rfl
  · obtain ⟨p, g, t, o, gs, tl, x, rfl, R, k⟩ := h
    have hr1 := hr.mono (show 1 ≤ 2 by decide)
    refine ⟨_, (pss_cons (ps_if (PW.pt (pw_or (pt_not (pt_val (pe_call GI hr1 rfl mI FI.kp bI .nil pass0 (pa_cons (pv 1) pa_nil)))) (pw_or1 (pt_cmpR op_lt (pv 1) pe_int (nomark _))))) (pss_one (ps_raiseEr rfl X.ea hr (takes_of rfl rfl rfl rfl) (pa_cons (pv 1) pa_nil))) pss_nil) (pss_cons (ps_if (PW.pt (pw_and (pt_cmpR op_eq (pe_ix ix_tup (pe_fld (pv 0) rfl) pe_int (fun _ _ => rfl)) pe_str (nomark _)) (pw_and1 (pt_cmpR op_ge (pv 1) (pe_callB call_len_seq (by rfl) T.len (by decide +kernel) (pa_cons (pe_fld (pv 0) rfl) pa_nil)) (nomark _))))) (pss_one (ps_raiseEr rfl X.ea hr (takes_of rfl rfl rfl rfl) (pa_cons (pv 1) pa_nil))) pss_nil) (pss_one (ps_if (PW.pt (pw_and (pt_cmpR op_eq (pe_ix ix_tup (pe_fld (pv 0) rfl) pe_int (fun _ _ => rfl)) pe_str (nomark _)) (pw_and1 (pt_cmpR op_gt (pv 1) (pe_glob (v := .int 1000) rfl m1 ⟨_, rfl⟩) (nomark _))))) (pss_one (ps_raiseEr rfl X.el hr (takes_of rfl rfl rfl rfl) (pa_cons (pe_glob (v := .int 1000) rfl m1 ⟨_, rfl⟩) pa_nil))) pss_nil)))), ?_⟩
    rcases k with ⟨hx, ko⟩ | ⟨n, rfl, kok, kl, kf⟩
    · rcases hx with hx | ⟨i, rfl, hi⟩
      · refine ⟨_, rfl, _, rfl, .inr ⟨hx, false, rfl, iteT ?_⟩⟩
        exact ⟨_, rfl, _, rfl, out_of ko⟩
      · refine ⟨_, rfl, _, rfl, .inl ⟨i, rfl, true, rfl, iteF ⟨_, rfl, _, _, rfl, rfl, _, rfl, ?_⟩⟩⟩
        by_cases h0 : i < 0
        · exact iteTb (decide_eq_true h0) ⟨_, rfl, _, rfl, out_of ko⟩
        · obtain ⟨rfl, hl⟩ := hi.resolve_left h0
          refine iteFb (decide_eq_false h0) ?_
          refine rdIs T R rfl (iteTb wEE ?_)
          refine ⟨_, rfl, rdO T R rfl ⟨o, _, rfl, .inl (SqL.of R.ho), _, _, rfl, rfl, _, rfl, iteTb (decide_eq_true ?_) ⟨_, rfl, _, rfl, out_of ko⟩⟩⟩
          rw [List.length_map, offs_len]
          omega
    · refine ⟨_, rfl, _, rfl, .inl ⟨_, rfl, true, rfl, iteF ⟨_, rfl, _, _, rfl, rfl, _, rfl, iteFb (decide_eq_false (by omega)) ?_⟩⟩⟩
      refine rdIs T R rfl ?_
      cases tl with
      | fin =>
        have hn := kf rfl
        refine iteTb wEE ?_
        refine ⟨_, rfl, rdO T R rfl ⟨o, _, rfl, .inl (SqL.of R.ho), _, _, rfl, rfl, _, rfl, iteFb (decide_eq_false ?_) ?_⟩⟩
        · rw [List.length_map, offs_len]
          omega
        · exact rdIs T R rfl (iteFb wET (iteF (kok hn)))
      | times b =>
        refine iteFb wTE (iteF ?_)
        refine rdIs T R rfl (iteTb wTT ⟨_, rfl, _, _, rfl, rfl, _, rfl, ?_⟩)
        by_cases h1 : 1000 < n
        · exact iteTb (decide_eq_true (by omega)) ⟨_, rfl, out_of (kl b rfl h1)⟩
        · exact iteFb (decide_eq_false (by omega)) (kok (by show n ≤ 1000; omega))
      | rep m =>
        refine iteFb wRE (iteF ?_)
        exact rdIs T R rfl (iteFb wRT (iteF (kok trivial)))
/-- passing on what a callee raises -/
theorem passUp {X : Cx} {E : XK} (tk : Takes X (fun cls d _ H => E cls d H)) : Passes (L2.CX X.prog X.w) X E := passes_call tk fun _ _ _ _ h => h
/-- the two ways of an attempt: refused, or a number -/
def Ways (K : PySem.W.Frag) (CA CL : Addr) (H : Hp) (E : XK) (gs : List Int) (tl : Tl) (x : V) (ok : Nat → Prop) : Prop :=
  (Refused K H gs tl x ∧ Out H E CA "attempt" x) ∨ (∃ n : Nat, x = .int (n : Int) ∧ (AttOk gs tl n → ok n) ∧ (∀ b, tl = .times b → 1000 < n → Out H E CL "limit" (.int 1000)) ∧ (tl = .fin → n ≤ gs.length))
def spOffR (K : PySem.W.Frag) (C CA CL : Addr) : Sp := fun vs H Q E => ∃ (p g t o : Addr) (gs : List Int) (tl : Tl) (x : V), vs = [.ref p, x] ∧ RuleAt C H p g t o gs tl ∧
  Ways K CA CL H E gs tl x fun n => ∀ H', Same H H' → Q (.int (off gs tl n)) H'
theorem ok_offsetR {f C fC fO CA CL : Addr} {fd fdC fdO : FuncData} (F : Fun K "offset" "Rule.offset" s_Rule_offset f fd) (T : Txt K mg C) (mC : Meth K C "_check_attempt" fC) (bC : Binds K fdC ["self", "attempt"] []) (mO : Meth K C "_offset_of" fO) (bO : Binds K fdO ["self", "attempt"] [])
    (GC : FnOk P w K mg base (L2.CX P w) 3 fC fdC ["self", "attempt"] (spChkR K C CA CL)) (GO : FnOk P w K mg base CX0 3 fO fdO ["self", "attempt"] (spOff C)) : FnOk P w K mg base (L2.CX P w) 4 f fd ["self", "attempt"] (spOffR K C CA CL) := by
  refine F.okX scOffset (fun vs H Q E h => ?_) (fun cdv A outer s H vs Q E hr h => ?_)
  · obtain ⟨p, g, t, o, gs, tl, x, rfl, _⟩ := h
    rfl
  · obtain ⟨p, g, t, o, gs, tl, x, rfl, R, k⟩ := h
    refine ⟨_, (pss_cons (ps_expr (pe_meth (E := E) (pv 0) T.cl mC GC hr bC .nil (passUp (takes_of rfl rfl rfl rfl)) (pa_cons (pv 1) pa_nil))) (pss_one (ps_ret (pe_meth (pv 0) T.cl mO GO hr bO .nil pass0 (pa_cons (pv 1) pa_nil))))), ?_⟩
    obtain ⟨dx, hob⟩ := R.ob
    refine ⟨_, rfl, p, dx, _, rfl, hob, flds_no _ _ _ (by decide +kernel) (by decide +kernel) (by decide +kernel), _, rfl, p, g, t, o, gs, tl, x, rfl, R, ?_⟩
    rcases k with k | ⟨n, rfl, kok, kl, kf⟩
    · exact .inl k
    · exact .inr ⟨n, rfl, fun ok => ⟨_, rfl, p, dx, _, rfl, hob, flds_no _ _ _ (by decide +kernel) (by decide +kernel) (by decide +kernel), _, rfl, p, g, t, o, gs, tl, n, rfl, R, ok, kok ok⟩, kl, kf⟩
def spGapR (K : PySem.W.Frag) (C CA CL : Addr) : Sp := fun vs H Q E => ∃ (p g t o : Addr) (gs : List Int) (tl : Tl) (x : V), vs = [.ref p, x] ∧ RuleAt C H p g t o gs tl ∧
  Ways K CA CL H E gs tl x fun n => (tl = .fin → n = gs.length → Out H E CA "attempt" (.int (n : Int))) ∧ ((tl = .fin → n < gs.length) → Q (.int (gapf gs tl n)) H)
theorem ok_gapR {f C fC fA fR fW CA fE CL fL : Addr} {fd fdC fdA fdR fdW : FuncData} (F : Fun K "gap" "Rule.gap" s_Rule_gap f fd) (T : Txt K mg C) (X : Ers K mg CA fE CL fL) (mC : Meth K C "_check_attempt" fC) (bC : Binds K fdC ["self", "attempt"] [])
    (GC : FnOk P w K mg base (L2.CX P w) 3 fC fdC ["self", "attempt"] (spChkR K C CA CL)) (FA : Fun K "attempts" "Rule.attempts" s_Rule_attempts fA fdA) (bA : Binds K fdA ["self"] []) (mA : Meth K C "attempts" fA)
    (FR : Fun K "first_repeating" "Rule.first_repeating" s_Rule_first_repeating fR fdR) (bR : Binds K fdR ["self"] []) (mR : Meth K C "first_repeating" fR)
    (FW : Fun K "_power" "_power" s_power fW fdW) (bW : Binds K fdW ["base", "exponent"] []) (mW : mg "_power" = some (.ref fW)) : FnOk P w K mg base (L2.CX P w) 4 f fd ["self", "attempt"] (spGapR K C CA CL) := by
  have GA : FnOk P w K mg base CX0 1 fA fdA ["self"] (spAtt C) := ok_attempts FA T
  have GR : FnOk P w K mg base CX0 1 fR fdR ["self"] (spFR C) := ok_fr FR T
  have GW : FnOk P w K mg base CX0 1 fW fdW ["base", "exponent"] spPower := ok_power FW
  refine F.okX scGap (fun vs H Q E h => ?_) (fun cdv A outer s H vs Q E hr h => ?_)
  · obtain ⟨p, g, t, o, gs, tl, x, rfl, _⟩ := h
    rfl
  · obtain ⟨p, g, t, o, gs, tl, x, rfl, R, ways⟩ := h
    have hr1 := hr.mono (show 1 ≤ 3 by decide)
    refine ⟨_, (pss_cons (ps_expr (pe_meth (E := E) (pv 0) T.cl mC GC hr bC .nil (passUp (takes_of rfl rfl rfl rfl)) (pa_cons (pv 1) pa_nil))) (pss_cons (ps_if (pt_cmpR op_eq (pe_op op_add (pv 1) pe_int) (pe_meth0 (pv 0) T.cl mA GA hr1 bA .nil pass0) (nomark _)) (pss_one (ps_raiseEr rfl X.ea hr (takes_of rfl rfl rfl rfl) (pa_cons (pv 1) pa_nil))) pss_nil) (pss_cons (ps_if (pt_cmpR op_lt (pv 1) (pe_callB call_len_seq (by rfl) T.len (by decide +kernel) (pa_cons (pe_fld (pv 0) rfl) pa_nil)) (nomark _)) (pss_one (ps_ret (pe_ix ix_list (pe_fld (pv 0) rfl) (pv 1) (fun _ _ => rfl)))) pss_nil) (pss_cons (ps_set (i := 2) scGap.nd rfl (Or.inl rfl) (pe_op op_sub (pv 1) (pe_callB call_len_seq (by rfl) T.len (by decide +kernel) (pa_cons (pe_fld (pv 0) rfl) pa_nil)))) (pss_cons (ps_if (pt_cmpR op_eq (pe_ix ix_tup (pe_fld (pv 0) rfl) pe_int (fun _ _ => rfl)) pe_str (nomark _)) (pss_one (ps_ret (pe_op op_mul (pe_ix ix_list (pe_fld (pv 0) rfl) (pe_un un_neg pe_int) (fun _ _ => rfl)) (pe_call GW hr1 rfl mW FW.kp bW .nil pass0 (pa_cons (pe_ix ix_tup (pe_fld (pv 0) rfl) pe_int (fun _ _ => rfl)) (pa_cons (pe_op op_add (pv 2) pe_int) pa_nil)))))) pss_nil) (pss_one (ps_ret (pe_ix ix_list (pe_fld (pv 0) rfl) (pe_op op_add (pe_meth0 (pv 0) T.cl mR GR hr1 bR .nil pass0) (pe_op op_mod (pv 2) (pe_ix ix_tup (pe_fld (pv 0) rfl) pe_int (fun _ _ => rfl)))) (fun _ _ => rfl))))))))), ?_⟩
    obtain ⟨dx, hob⟩ := R.ob
    have nF : (flds g t o).lookup ("first_repeating" : Str) = none := flds_no _ _ _ (by decide +kernel) (by decide +kernel) (by decide +kernel)
    have nA : (flds g t o).lookup ("attempts" : Str) = none := flds_no _ _ _ (by decide +kernel) (by decide +kernel) (by decide +kernel)
    refine ⟨_, rfl, p, dx, _, rfl, hob, flds_no _ _ _ (by decide +kernel) (by decide +kernel) (by decide +kernel), _, rfl, p, g, t, o, gs, tl, x, rfl, R, ?_⟩
    rcases ways with k | ⟨n, rfl, kok, kl, kf⟩
    · exact .inl k
    refine .inr ⟨n, rfl, fun ok => ?_, kl, kf⟩
    have k0 := kok ok
    refine ⟨_, rfl, _, _, rfl, rfl, _, rfl, p, dx, _, rfl, hob, nA, p, g, t, o, gs, tl, rfl, R, ?_⟩
    by_cases hlast : tl = .fin ∧ n = gs.length
    · obtain ⟨rfl, rfl⟩ := hlast
      refine ⟨rfl, _, rfl, iteTb (decide_eq_true rfl) ⟨_, rfl, _, rfl, out_of (k0.1 rfl rfl)⟩⟩
    have okf : tl = .fin → n < gs.length := fun e => by
      have := kf e
      have : n ≠ gs.length := fun z => hlast ⟨e, z⟩
      omega
    have k := k0.2 okf
    have hsc : scal (V.int ((n : Int) + 1)) (attV gs tl) = true := by cases tl <;> rfl
    have hne : decide (V.int ((n : Int) + 1) = attV gs tl) = false := by
      cases tl with
      | fin =>
        have := okf rfl
        refine decide_eq_false fun e => ?_
        have := V.int.inj e
        omega
      | times b => exact decide_eq_false fun e => by cases e
      | rep m => exact decide_eq_false fun e => by cases e
    refine ⟨hsc, _, rfl, iteFb hne ?_⟩
    refine ⟨_, rfl, rdG T R rfl ⟨g, _, rfl, .inl (SqL.of R.hg), _, _, rfl, rfl, _, rfl, ?_⟩⟩
    rw [List.length_map]
    by_cases hn : n < gs.length
    · refine iteTb (decide_eq_true (by omega)) ?_
      refine rdGx T R rfl ⟨_, rfl, g, _, _, _, rfl, rfl, SqL.of R.hg, at_map (getD_get hn), ?_⟩
      have e : gapf gs tl n = gs.getD n 0 := if_pos hn
      rw [← e]
      exact k
    · refine end_cmp (by omega) ?_
      refine ⟨_, rfl, ?_⟩
      refine rdG T R rfl ⟨g, _, rfl, .inl (SqL.of R.hg), _, _, rfl, rfl, ?_⟩
      have ef : ((n : Int) - (((gs.map V.int).length : Nat) : Int)) = ((n - gs.length : Nat) : Int) := by
        rw [List.length_map]
        omega
      show tSeq _ _ _ (List.set _ 2 (some (V.int ((n : Int) - (((gs.map V.int).length : Nat) : Int))))) H
      rw [ef]
      refine rdIs T R rfl ?_
      cases tl with
      | fin => exact absurd (okf rfl) hn
      | times b =>
        have hl := R.okT.1
        have hb0 := R.okT.2.1
        have hb1 := R.okT.2.2
        have hn1 : n ≤ 1000 := ok
        have hg := gap_bd R.okG (k := gs.length - 1) (by omega)
        have hg : 1 ≤ lastG gs ∧ lastG gs ≤ 1000000000000 := hg
        refine iteTb wTT ?_
        refine rdLast T R rfl hl ?_
        refine rdB T R rfl ⟨_, rfl, _, _, rfl, rfl, b, n - gs.length + 1, ?_, by omega, by omega, by omega, _, _, rfl, rfl, .inl ⟨by omega, by omega⟩, ?_⟩
        · rfl
        · have e : gapf gs (.times b) n = lastG gs * b ^ (n - gs.length + 1) := if_neg hn
          rw [e] at k
          exact k
      | rep m =>
        have hm0 := R.okT.1
        have hm1 := R.okT.2
        have hr0 : (n - gs.length) % m < m := Nat.mod_lt _ (by omega)
        refine iteFb wRT ?_
        refine rdGx T R rfl ⟨_, rfl, p, dx, _, rfl, hob, nF, p, g, t, o, gs, m, rfl, R, _, rfl, ?_⟩
        refine rdN T R rfl ⟨_, _, rfl, rfl, by omega, _, _, rfl, rfl, ?_⟩
        refine ⟨g, _, _, .int (gs.getD (gs.length - m + (n - gs.length) % m) 0), rfl, rfl, SqL.of R.hg, ?_, ?_⟩
        · rw [← Int.natCast_emod, ← Int.natCast_add]
          exact at_map (getD_get (by omega))
        · have e : gapf gs (.rep m) n = gs.getD (gs.length - m + (n - gs.length) % m) 0 := if_neg hn
          rw [e] at k
          exact k
end
end RS
/-! ### t[::-1] of a pair; lists held against the empty list -/
namespace HT
open PySem PySem.Spec PyProof.Rows
section
variable {prog : Program} {w : World} {A : Around} {E : Value → Shared → Prop} {s : Shared}
theorem sliceApplied_rev2 {sl : Addr} {tk : Tok} {Q : Int × Int × Nat → Shared → Prop} (hs : s.heap.IsSliceOf sl .none .none (.int (-1) tk)) (h : Q (1, -1, 2) s) :
    wpAny (model prog w) A (Builtin.Slice.sliceApplied (.ref sl) (pure (2 : Int))) Q E s := by
  obtain ⟨os, hos, hcs, hds⟩ := id hs
  unfold Builtin.Slice.sliceApplied Builtin.Slice.sliceFields
  refine wpAny_bind (wpAny_bind (wpAny_field hos hds (x := .none) rfl (wpAny_bind (wpAny_field hos hds (x := .none) rfl (wpAny_bind (wpAny_field hos hds (x := .int (-1) tk) rfl (wpAny_pure ?_)))))))
  refine wpAny_bind (slicePart_ (.int (-1) tk) ?_)
  show wpAny _ _ (if ((-1 : Int) == 0) = true then _ else _) _ _ s
  rw [if_neg (by decide)]
  refine wpAny_bind (slicePart_ .none (wpAny_bind (slicePart_ .none (wpAny_bind (wpAny_pure ?_)))))
  show wpAny _ _ (pure ((1 : Int), (-1 : Int), 2)) _ _ s
  exact wpAny_pure h
theorem getItem_tuple_rev2 {t sl : Addr} {x y : Value} {vs : Value} {Q : Value → Shared → Prop} (ht : IsTup s.heap t #[x, y]) (hs : s.heap.IsSliceOf sl .none .none vs) (ps : IsPart vs (some (-1)))
    (h : Q (.ref s.heap.objs.size) { s with heap := s.heap.push { cls := .type "tuple", data := .seq #[y, x] } }) : wpAny (model prog w) A (getItem (.ref t) (.ref sl)) Q E s := by
  cases ps with
  | int i tk =>
  have htake : sizeOk (.seq #[y, x]) := by
    show 2 ≤ sizeLine
    decide
  obtain ⟨os, hos, hcs, hds⟩ := id hs
  have hTs : s.TypeIs (.ref sl) "slice" := ⟨os, hos, hcs⟩
  unfold getItem
  try with_reducible refine wpAny_holding ?_
  first | refine wpAny_bind (wpAny_pure ?_) | skip
  refine wpAny_bind (wpAny_sequenceKey ht.typeIs (by decide) ?_)
  refine wpAny_bind (wpAny_callSpecial?_slot (name := Str.ofString "__getitem__") ht.typeIs PyProof.Rows.slot_tuple_getitem
    (wpAny_call_entry PyProof.Rows.slot_tuple_getitem ht.typeIs entry_tuple_getitem ?_ (args_tuple_getitem _ _)))
  show wpAny _ _ (Builtin.Tuple.tupleItemsOf (.ref t) >>= _) _ _ s
  refine wpAny_bind (tupleItemsOf_ ht ?_)
  refine wpAny_bind (wpAny_typeOf hTs ?_)
  rw [if_pos (by decide)]
  refine wpAny_bind (sliceApplied_rev2 hs ?_)
  show wpAny _ _ (if (((1 : Int) == 0 && (-1 : Int) == 1 && (2 : Nat) == 2) = true) then _ else _) _ _ s
  rw [if_neg (by decide)]
  first
    | exact wpAny_bind (m := Builtin.Tuple.tupleExact _) (wpAny_newObj_type (wpAny_pure ⟨_, rfl, wpAny_pure h⟩) htake)
    | exact wpAny_bind (m := Builtin.Tuple.tupleExact _) (wpAny_newObj_type (wpAny_bind (wpAny_pure (wpAny_pure ⟨_, rfl, wpAny_pure h⟩))) htake)
    | exact wpAny_bind (wpAny_bind (m := Builtin.Tuple.tupleExact _) (wpAny_newObj_type (wpAny_pure (wpAny_pure ⟨_, rfl, wpAny_pure h⟩)) htake))
    | exact wpAny_bind (wpAny_bind (m := Builtin.Tuple.tupleExact _) (wpAny_newObj_type (wpAny_pure ⟨_, rfl, wpAny_pure h⟩) htake))
end
end HT
namespace L2
open PySem PySem.Spec PyProof.Rows
section
variable {X : Cx} {pos : Pos}
def tRevT2 (K : PySem.W.Frag) (te : TE) : TE := fun σ H Q => te σ H fun x H1 => ∃ a v w, x = .ref a ∧ SqT K H1 a [v, w] ∧ ∀ p, H1 p = none → Q (.ref p) (upd H1 p (.tup [w, v]))
theorem pe_revT2 {e : Expr} {te : TE} {k : Nat} {p1 p2 p3 pos : Pos} (he : PE X e te) : PE X (.Subscript e (.Slice none none (some (.UnaryOp .USub (.Constant (.int 1) k p1) p2)) p3) pos) (tRevT2 X.K te) := by
  refine ⟨fun pins s σ H Q I h => ?_⟩
  refine Subscript_ (thn (he.run pins s σ H _ I h) fun v s1 ⟨x, H1, I1, r1, q1⟩ => ?_)
  obtain ⟨a, y, z, ex, hx, q⟩ := q1
  subst ex
  cases r1
  have hst : PO X (some (.UnaryOp .USub (.Constant (.int 1) k p1) p2)) (tPart (tUn (rU fun i => .int (-i)) (tC (.int 1)))) := po_some (pe_un un_neg pe_int)
  refine wpAny_Slice (thn (po_none.run pins s1 σ H1 (fun o H2 => o = none ∧ H2 = H1) I1 ⟨rfl, rfl⟩) fun vl s2 ⟨l, H2, I2, pl, el, e2⟩ => ?_)
  subst el e2
  refine thn (po_none.run pins s2 σ H2 (fun o H3 => o = none ∧ H3 = H2) I2 ⟨rfl, rfl⟩) fun vu s3 ⟨u, H3, I3, pu, eu, e3⟩ => ?_
  subst eu e3
  refine thn (hst.run pins s3 σ H3 (fun o H4 => o = some (-1) ∧ H4 = H3) I3 ⟨1, rfl, -1, rfl, rfl, rfl⟩) fun vs s4 ⟨o, H4, I4, ps, eo, e4⟩ => ?_
  subst eo e4
  cases pl
  cases pu
  have I5 : Inv X pins σ H4 { s4 with heap := s4.heap.push { cls := .type "slice", data := .fields #[.none, .none, vs] } } := I4.kept (t' := s4.toks) fun b ob q => Heap.get?_push_of_some _ q
  obtain ⟨its, r, ht, hz⟩ := I5.tuple hx
  cases r with
  | cons ry r =>
  cases r with
  | cons rz r =>
  cases r
  rename_i vy vz
  show wpAny (model X.prog X.w) X.A (subscriptTail e (.Slice none none (some (.UnaryOp .USub (.Constant (.int 1) k p1) p2)) p3) (.ref a) (.ref s4.heap.objs.size)) (EP X pins σ Q) X.xe { s4 with heap := s4.heap.push { cls := .type "slice", data := .fields #[.none, .none, vs] } }
  refine tail_any (ops := [.ref a, .ref s4.heap.objs.size]) ht.typeIs (PyProof.Rows.slot_tuple_getitem.lookup) ?_ (by with_unfolding_all rfl)
  refine HT.getItem_tuple_rev2 ht (Heap.IsSliceOf.new _ .none .none vs) ps ?_
  refine ⟨.ref _, _, I5.laid (t' := s4.toks) (o := .tup [z, y]) (fun b ob q => Heap.get?_push_of_some _ q) (Nat.le_refl _) ?_, rfl, q _ (I5.hok.fresh (Nat.le_refl _))⟩
  exact ⟨by show 2 ≤ sizeLine; decide, _, .cons rz (.cons ry .nil), IsTup.new _ _⟩
/-- a list, held against the empty list -/
def rNilB (K : PySem.W.Frag) (f : Bool → Bool) : R2 := fun x y H Q => ∃ a b xs, x = .ref a ∧ y = .ref b ∧ SqL K H a xs ∧ SqL K H b [] ∧ Q (.bl (f xs.isEmpty)) H
theorem op_eqNil (hu : X.A.units + 64 < cLine) : OpR X (compareOp .Eq) (rNilB X.K id) := by
  intro pins s σ H x y v u Q I rx ry h
  obtain ⟨a, b, xs, rfl, rfl, ha, hb, q⟩ := h
  cases xs with
  | nil => exact op_eqD hu pins s σ H _ _ v u Q I rx ry ⟨.list [], .list [], .lst ha .nil, .lst hb .nil, rfl, rfl, q⟩
  | cons z r =>
    cases rx
    cases ry
    obtain ⟨its, r1, h1, _⟩ := I.list ha
    obtain ⟨its2, r2, h2, _⟩ := I.list hb
    cases r2
    have e1 := r1.length
    refine SeqAt.eq_list_lengthsAt h1.isList h2.isList ?_ (by omega) ⟨.bl _, H, I, rfl, q⟩
    rw [List.size_toArray, ← e1]
    rfl
theorem op_neNil (hu : X.A.units + 64 < cLine) : OpR X (compareOp .NotEq) (rNilB X.K not) := by
  intro pins s σ H x y v u Q I rx ry h
  obtain ⟨a, b, xs, rfl, rfl, ha, hb, q⟩ := h
  cases xs with
  | nil => exact op_neD hu pins s σ H _ _ v u Q I rx ry ⟨.list [], .list [], .lst ha .nil, .lst hb .nil, rfl, rfl, q⟩
  | cons z r =>
    cases rx
    cases ry
    obtain ⟨its, r1, h1, _⟩ := I.list ha
    obtain ⟨its2, r2, h2, _⟩ := I.list hb
    cases r2
    have e1 := r1.length
    refine SeqAt.RcNeAt.lists_lengths h1.isList h2.isList ?_ (by omega) X.prog X.w _ _ ⟨.bl _, H, I, rfl, q⟩
    rw [List.size_toArray, ← e1]
    rfl
end
end L2
/-! ### try .. except (A, B): a tuple of two classes -/
namespace Two
open PySem PySem.Spec PyProof.Rows L2
section
variable {X : Cx} {x y : Str} {c1 c2 : Value} {np np2 tp pos' : Pos} {kt : Nat}
/-- what the clause wishes of an exception of the body -/
def wTwo (K : PySem.W.Frag) (c1 c2 : Value) (ts : Addr → Value → Option Addr → TS) (Wout : WX) (D : Ends) : WX := fun cls d σ H =>
  ∃ b, PySem.W.exmAny K cls [c1, c2] = some b ∧ (b = true → ∀ a, H a = none → ts a cls d D σ H) ∧ (b = false → Wout cls d σ H)
/-- the flight goes on in a heap that holds more -/
theorem fly_more {B h h2 : Heap} {l : List Env} {e : Addr} {Z : Obj → Prop} (F : HandSPX.FlyingZ B l e Z h) (more : ∀ q o, h.get? q = some o → h2.get? q = some o) : HandSPX.FlyingZ B l e Z h2 := by
  have ⟨st, ne, fr, oe, vs, T, oT, rest⟩ := F
  have ⟨ts, he, hz, hd, h1, hT0, hTe, hT, hdT, h3⟩ := rest
  refine ⟨fun q o z => more q o (st q o z), ne, Heap.FunFrames.of_keeps (fun q o z _ => ⟨o, more q o z, rfl⟩) fr, oe, vs, T, oT, ts, ?_⟩
  exact ⟨more e oe he, hz, hd, h1, hT0, hTe, more T oT hT, hdT, h3⟩
/-- an exception's own object is no frame of the stack -/
theorem off_stack {B h : Heap} {a : Addr} {o : Obj} {vs : Array Value} (ff : h.FunFrames B (X.env :: X.outer)) (ho : h.get? a = some o) (hd : o.data = .fields vs) (hf : X.env.frame = some X.env.locals) : a ≠ X.env.locals ∧ a ∉ X.fs := by
  have no : ∀ env ∈ X.env :: X.outer, env.frame ≠ some a := fun env hm hfr => by
    have ⟨_, o2, ho2, nd⟩ := Heap.FunFrames.mem ff (List.mem_filterMap.mpr ⟨env, hm, hfr⟩)
    rw [ho] at ho2
    exact nd vs (Option.some.inj ho2 ▸ hd)
  refine ⟨fun e => no X.env (by simp) (by rw [hf, e]), fun hm => ?_⟩
  have ⟨env, h1, h2⟩ := List.mem_filterMap.mp hm
  exact no env (by simp [h1]) h2
variable {pins p0 : List (Addr × Obj)} {σ0 : L2.St} {H0 : Hp} {s0 : Shared} {D : Ends}
/-- behind the suite the statement's own ends hold -/
theorem suite_back (I : Inv X p0 σ0 H0 s0) {a : Addr} {oe : Obj} : ∀ (f : Flow) (s : Shared), SP (X.suite a ((a, oe) :: (X.pn ++ pins))) [] D f s → SP X pins D f s
  | .ret _, _, ⟨v, σ, H, J, r, q⟩ => ⟨v, σ, H, J.unsuite I.ok, r, q⟩
  | .next, _, ⟨σ, H, J, q⟩ => ⟨σ, H, J.unsuite I.ok, q⟩
  | .brk, _, ⟨σ, H, J, q⟩ => ⟨σ, H, J.unsuite I.ok, q⟩
  | .cont, _, ⟨σ, H, J, q⟩ => ⟨σ, H, J.unsuite I.ok, q⟩
theorem body_back (I : Inv X p0 σ0 H0 s0) {xe : Value → Shared → Prop} : ∀ (f : Flow) (s : Shared), SP (X.tr (X.pn ++ pins) xe) [] D f s → SP X pins D f s
  | .ret _, _, ⟨v, σ, H, J, r, q⟩ => ⟨v, σ, H, J.ofTry I.ok, r, q⟩
  | .next, _, ⟨σ, H, J, q⟩ => ⟨σ, H, J.ofTry I.ok, q⟩
  | .brk, _, ⟨σ, H, J, q⟩ => ⟨σ, H, J.ofTry I.ok, q⟩
  | .cont, _, ⟨σ, H, J, q⟩ => ⟨σ, H, J.ofTry I.ok, q⟩
/-- a class named in the clause is found -/
theorem name_at {z : Str} {c : Value} {p : Pos} {X : Cx} {pins : List (Addr × Obj)} {σ : L2.St} {H : Hp} {s : Shared} (I : Inv X pins σ H s) (n : Names X z c) {Q E : Value → Shared → Prop} (q : Q c s) : wpAny (model X.prog X.w) X.A (eval (.Name z p) X.env) Q E s :=
  n.2.2.elim (fun m => ld_glob I n.1 m q n.2.1) fun m => ld_blt I n.1 m.1 m.2.1 q m.2.2 n.2.1
/-- the clause, met by an exception in flight over the state J -/
theorem clause {B : Heap} {a : Addr} {cls : Value} {d : Option Addr} {σ : L2.St} {H : Hp} {sI s : Shared} {b₀ : Stmt} {suite : List Stmt} {ts : Addr → Value → Option Addr → TS} {Wout : WX} (hs : X.stack = X.env :: X.outer) (hf : X.env.frame = some X.env.locals) (n1 : Names X x c1) (n2 : Names X y c2) (tk : Takes X Wout)
    (hsu : ∀ (a : Addr) (oe : Obj) (cls : Value) (d : Option Addr) (pn : List (Addr × Obj)), Zc cls d oe → (∃ vs, oe.data = .fields vs) → PSs (X.suite a ((a, oe) :: pn)) (b₀ :: suite) (ts a cls d))
    (hst : starEach [.Name x np, .Name y np2] X.env = [(false, eval (.Name x np) X.env), (false, eval (.Name y np2) X.env)])
    (J : Inv X pins σ H sI) (nb : ∀ b o, sI.heap.get? b = some o → b ∉ frs X.stack → B.get? b = some o) (os : s.os = sI.os) (ag : AllBare s.gens) (na : H a = none)
    (F : HandSPX.FlyingZ B (X.env :: X.outer) a (Zc cls d) s.heap) (up : sI.heap.UpToSlots s.heap) (w : wTwo X.K c1 c2 ts Wout D cls d σ H) :
    wpAny (model X.prog X.w) X.A (handleBy (.ref a) X.env [.ExceptHandler (some (.Tuple [.Name x np, .Name y np2] kt tp)) none (b₀ :: suite) pos']) (SP X pins D) X.xe s := by
  have ⟨b, hb, yes, no⟩ := w
  have at' : ∀ {h2 : Heap}, HandSPX.FlyingZ B (X.env :: X.outer) a (Zc cls d) h2 → sI.heap.UpToSlots h2 → ∃ oe vs, h2.get? a = some oe ∧ Zc cls d oe ∧ oe.data = .fields vs ∧ Inv (X.suite a ((a, oe) :: (X.pn ++ pins))) [] σ H { s with heap := h2 } := fun F2 u2 => by
    have ⟨oe, vs, he, hz, hd⟩ := F2.there
    have ⟨n1, n2⟩ := off_stack F2.2.2.1 he hd hf
    exact ⟨oe, vs, he, hz, hd, (J.landed (s' := { s with heap := _ }) nb F2.1 u2 os ag).suite he hd na n1 n2⟩
  have ⟨oe, vs, he, hz, hd, S⟩ := at' F up
  refine wpAny_handleBy_cons (codeAny_handlers_test (wpAny_Tuple_spliced ?_)) fun z => nomatch z
  rw [hst]
  show wpAny _ _ (spliced [(false, eval (.Name x np) X.env), (false, eval (.Name y np2) X.env)]) _ _ s
  refine Calls.spliced_cons (name_at (X := X.suite a ((a, oe) :: (X.pn ++ pins))) S n1 ?_)
  refine Calls.spliced_cons (name_at (X := X.suite a ((a, oe) :: (X.pn ++ pins))) S n2 ?_)
  refine Calls.spliced_nil ⟨show 2 ≤ sizeLine by decide, ?_⟩
  -- the tuple of the two classes is laid
  have more : ∀ q o, s.heap.get? q = some o → (s.heap.push { cls := .type "tuple", data := .seq [c1, c2].toArray }).get? q = some o := fun _ _ z => Heap.get?_push_of_some _ z
  have tup : (s.heap.push { cls := .type "tuple", data := .seq [c1, c2].toArray }).get? s.heap.objs.size = some { cls := .type "tuple", data := .seq [c1, c2].toArray } := Heap.get?_push_size s.heap rfl
  have F5 := fly_more F more
  have u5 := up.trans (Heap.UpToSlots.of_keeps more)
  show wpAny _ _ (excMatches (.ref a) (.ref s.heap.objs.size)) _ _ { s with heap := s.heap.push { cls := .type "tuple", data := .seq [c1, c2].toArray } }
  generalize s.heap.push { cls := .type "tuple", data := .seq [c1, c2].toArray } = h5 at more tup F5 u5
  have typ : PySem.W.Looks (model X.prog X.w) h5 (typeOf (.ref a)) cls := fun _ _ _ _ le q => wpAny_typeOf_ref (le _ _ (more _ _ he)) (hz.1.symm ▸ q)
  refine (PySem.W.exm_tup2 (M := model X.prog X.w) (J.landed (s' := { s with heap := h5 }) nb F5.1 u5 os ag).kIn typ tup hb).here ?_
  cases b
  · -- no clause is left: it flies on
    refine wpAny_handleBy_nil ?_
    have ⟨_, _, _, oe2, _, T, _, _, he2, _, hd2, hT, _⟩ := F5
    unfold PySem.passOn
    refine wpAny_bind (wpAny_field he2 hd2 hT ?_)
    rw [if_neg (by simp)]
    have on : wpAny (model X.prog X.w) X.A (setFlight (.ref a) X.env.frame) (fun _ s4 => wpAny (model X.prog X.w) X.A (throw (.ref a) : Sem Flow) (SP X pins D) X.xe s4) X.xe { s with heap := h5 } := by
      rw [hf]
      exact HandSPX.setFlight_upZ F5 fun _ hh u => wpAny_throw (tk _ _ ⟨a, B, sI, pins, σ, H, cls, d, rfl, J, nb, u5.trans u, .inr (.inr (hs ▸ hh)), na, os, ag, no rfl⟩)
    first
      | exact wpAny_bind (wpAny_pure (wpAny_bind on))
      | exact wpAny_bind on
  · -- the suite
    refine codeAny_handlers_suite (HandSPX.lands_againZ F5 fun h4 F4 u4 => ?_)
    have ⟨oe4, vs4, he4, hz4, hd4, S4⟩ := at' F4 (u5.trans u4)
    exact wpAny_mono ((hsu a oe4 cls d (X.pn ++ pins) hz4 ⟨_, hd4⟩).run [] _ _ H _ S4 (yes rfl a na)) (suite_back J) fun _ _ z => z.elim
theorem ps_try_two {body suite : List Stmt} {b₀ : Stmt} {pos : Pos} {tb : WX → TS} {ts : Addr → Value → Option Addr → TS} {Wout : WX} (hs : X.stack = X.env :: X.outer) (hf : X.env.frame = some X.env.locals) (n1 : Names X x c1) (n2 : Names X y c2) (tk : Takes X Wout)
    (hb : ∀ (W : WX) (pn : List (Addr × Obj)) (xe : Value → Shared → Prop), Takes (X.tr pn xe) W → PassesOwn (model X.prog X.w) X.A X.env xe → PSs (X.tr pn xe) body (tb W))
    (hsu : ∀ (a : Addr) (oe : Obj) (cls : Value) (d : Option Addr) (pn : List (Addr × Obj)), Zc cls d oe → (∃ vs, oe.data = .fields vs) → PSs (X.suite a ((a, oe) :: pn)) (b₀ :: suite) (ts a cls d))
    (hst : starEach [.Name x np, .Name y np2] X.env = [(false, eval (.Name x np) X.env), (false, eval (.Name y np2) X.env)] := by rfl) :
    PS X (.Try body [.ExceptHandler (some (.Tuple [.Name x np, .Name y np2] kt tp)) none (b₀ :: suite) pos'] [] [] pos) (fun D σ H => tb (wTwo X.K c1 c2 ts Wout D) D σ H) := by
  constructor
  intro pins s σ H D I h
  let hd : List ExceptHandler := [.ExceptHandler (some (.Tuple [.Name x np, .Name y np2] kt tp)) none (b₀ :: suite) pos']
  let xe : Value → Shared → Prop := fun e s₁ => wpAny (model X.prog X.w) X.A (noteFrame e X.env) (fun _ s₂ => wpAny (model X.prog X.w) X.A (setFlight e none) (fun _ s₃ => wpAny (model X.prog X.w) X.A (handleBy e X.env hd) (SP X pins D) X.xe s₃) X.xe s₂) X.xe s₁
  have fr : X.A.frames = some (X.env :: X.outer) := I.ok.frames.trans (congrArg some hs)
  have tk2 : Takes (X.tr (X.pn ++ pins) xe) (wTwo X.K c1 c2 ts Wout D) := by
    rintro u s' ⟨a, B, sI, p', σ', H', cls, d, rfl, J', nb, up, sky, na, os, ag, w⟩
    have J : Inv X pins σ' H' sI := J'.ofTry I.ok
    refine Sky.land Zc.steady fr hf (show Sky B (X.env :: X.outer) a (Zc cls d) X.env.locals s'.heap from hs ▸ sky) fun h3 F3 u3 => ?_
    exact clause (s := { s' with heap := h3 }) hs hf n1 n2 tk hsu hst J nb os ag na F3 (up.trans u3) w
  refine wpAny_Try_except (wpAny_mono ((hb _ (X.pn ++ pins) xe tk2 PassesOwn.looking).run [] s σ H D (I.toTry _) h) (fun f s1 r => ?_) fun _ _ z => z)
  have r := body_back I f s1 r
  cases f with
  | next => exact wpAny_execs_nil r
  | _ => exact r
end
end Two
namespace RS
open PySem L2
/-! ### values of any kind, all apart from the object at a0 -/
mutual
inductive Dx (a0 : Addr) (H : Hp) : V → PyData → Prop
  | non : Dx a0 H .non .none
  | bl (b : Bool) : Dx a0 H (.bl b) (.bool b)
  | int (i : Int) : Dx a0 H (.int i) (.int i)
  | str (x : Str) : Dx a0 H (.str x) (.str x)
  | lst {a : Addr} {xs : List V} {ds : List PyData} : a ≠ a0 → H a = some (.lst xs) → DxAll a0 H xs ds → Dx a0 H (.ref a) (.list ds)
  | tup {a : Addr} {xs : List V} {ds : List PyData} : a ≠ a0 → H a = some (.tup xs) → DxAll a0 H xs ds → Dx a0 H (.ref a) (.tuple ds)
  | dct {a : Addr} : a ≠ a0 → H a = some (.dK []) → Dx a0 H (.ref a) (.dict [])
inductive DxAll (a0 : Addr) (H : Hp) : List V → List PyData → Prop
  | nil : DxAll a0 H [] []
  | cons {v : V} {vs : List V} {d : PyData} {ds : List PyData} : Dx a0 H v d → DxAll a0 H vs ds → DxAll a0 H (v :: vs) (d :: ds)
end
section
variable {a0 : Addr} {H H' : Hp}
mutual
theorem Dx.kx (k : Kx a0 H H') : ∀ (d : PyData) (v : V), Dx a0 H v d → Dx a0 H' v d
  | .none, _, h => by cases h; exact .non
  | .bool _, _, h => by cases h; exact .bl _
  | .int _, _, h => by cases h; exact .int _
  | .str _, _, h => by cases h; exact .str _
  | .list ds, _, h => by
    cases h with
    | lst n e r => exact .lst n (k _ _ n e) (DxAll.kx k ds _ r)
  | .tuple ds, _, h => by
    cases h with
    | tup n e r => exact .tup n (k _ _ n e) (DxAll.kx k ds _ r)
  | .dict _, _, h => by
    cases h with
    | dct n e => exact .dct n (k _ _ n e)
theorem DxAll.kx (k : Kx a0 H H') : ∀ (ds : List PyData) (vs : List V), DxAll a0 H vs ds → DxAll a0 H' vs ds
  | [], _, h => by cases h; exact .nil
  | d :: ds, _, h => by
    cases h with
    | cons h1 h2 => exact .cons (Dx.kx k d _ h1) (DxAll.kx k ds _ h2)
end
theorem Dx.same (s : Same H H') {v : V} {d : PyData} (h : Dx a0 H v d) : Dx a0 H' v d := Dx.kx (Kx.of s) d v h
theorem Dx.kx' (k : Kx a0 H H') {v : V} {d : PyData} (h : Dx a0 H v d) : Dx a0 H' v d := Dx.kx k d v h
theorem DxAll.same (s : Same H H') {v : List V} {d : List PyData} (h : DxAll a0 H v d) : DxAll a0 H' v d := DxAll.kx (Kx.of s) d v h
theorem DxAll.len : ∀ {vs : List V} {ds : List PyData}, DxAll a0 H vs ds → vs.length = ds.length
  | _, [], h => by cases h; rfl
  | _, d :: ds, h => by cases h with | cons _ h2 => rw [List.length_cons, List.length_cons, h2.len]
theorem DxAll.at : ∀ {vs : List V} {ds : List PyData}, DxAll a0 H vs ds → ∀ {i : Nat} {v : V}, vs[i]? = some v → ∃ d, ds[i]? = some d ∧ Dx a0 H v d
  | _, [], h, i, v, e => by cases h; simp at e
  | _, d :: ds, h, i, v, e => by
    cases h with
    | cons h1 h2 =>
      cases i with
      | zero => simp at e; subst e; exact ⟨d, rfl, h1⟩
      | succ i => exact h2.at (i := i) (by simpa using e)
end
/-- the name of a value's type -/
def tyN : PyData → String
  | .none => "NoneType"
  | .bool _ => "bool"
  | .int _ => "int"
  | .str _ => "str"
  | .list _ => "list"
  | .tuple _ => "tuple"
  | .dict _ => "dict"
theorem Dx.ty {K : PySem.W.Frag} {a0 : Addr} {H : Hp} {v : V} {d : PyData} (h : Dx a0 H v d) : TyX K H v (.type (tyN d)) := by
  cases h with
  | non => exact .base .non
  | bl b => exact .base (.bl b)
  | int i => exact .base (.int i)
  | str x => exact .base (.str x)
  | lst _ e _ => exact .base (.lst e)
  | tup _ e _ => exact .base (.tup e)
  | dct _ e => exact .base (.dK e)
def isIntD : PyData → Bool
  | .int _ => true
  | _ => false
theorem Dx.odd {K : PySem.W.Frag} {a0 : Addr} {H : Hp} {v : V} {d : PyData} (h : Dx a0 H v d) (n : isIntD d = false) : OddV K H v := by
  refine ⟨tyN d, h.ty, ?_⟩
  cases d with
  | bool b => exact .inl rfl
  | int i => cases n
  | none => exact .inr (by show kitB "NoneType" "int" = _; decide +kernel)
  | str x => exact .inr (by show kitB "str" "int" = _; decide +kernel)
  | list x => exact .inr (by show kitB "list" "int" = _; decide +kernel)
  | tuple x => exact .inr (by show kitB "tuple" "int" = _; decide +kernel)
  | dict x => exact .inr (by show kitB "dict" "int" = _; decide +kernel)
theorem Dx.int_of {a0 : Addr} {H : Hp} {v : V} {d : PyData} (h : Dx a0 H v d) (n : isIntD d = true) : ∃ i, d = .int i ∧ v = .int i := by
  cases h with
  | int i => exact ⟨i, rfl, rfl⟩
  | _ => cases n
/-- attempts, pairs, repetitions among such values -/
def attB (gs : List Int) (tl : Tl) (n : Nat) : Bool := match tl with
  | .fin => decide (n ≤ gs.length)
  | .times _ => decide (n ≤ 1000)
  | .rep _ => true
theorem attB_iff {gs : List Int} {tl : Tl} {n : Nat} : attB gs tl n = true ↔ AttOk gs tl n := by
  cases tl with
  | fin => exact decide_eq_true_iff
  | times b => exact decide_eq_true_iff
  | rep m => exact ⟨fun _ => True.intro, fun _ => rfl⟩
def isAtt (gs : List Int) (tl : Tl) : PyData → Bool
  | .int i => decide (0 ≤ i) && attB gs tl i.toNat
  | _ => false
def natD : PyData → Nat
  | .int i => i.toNat
  | _ => 0
def twoD : PyData → Option (PyData × PyData)
  | .tuple [x, y] => some (x, y)
  | _ => none
def isPairD (gs : List Int) (tl : Tl) (d : PyData) : Bool := match twoD d with
  | some (x, y) => isAtt gs tl x && (isAtt gs tl y && decide (natD x < natD y))
  | none => false
def fstN (d : PyData) : Nat := match twoD d with
  | some (x, _) => natD x
  | none => 0
def sndN (d : PyData) : Nat := match twoD d with
  | some (_, y) => natD y
  | none => 0
def diffD (gs : List Int) (tl : Tl) (d : PyData) : Int := off gs tl (sndN d) - off gs tl (fstN d)
def isRepD (gs : List Int) (tl : Tl) (d : PyData) : Bool := match twoD d with
  | some (x, y) => isPairD gs tl x && (isPairD gs tl y && (!decide (fstN x = fstN y) && decide (diffD gs tl x = diffD gs tl y)))
  | none => false
theorem isAtt_int {gs : List Int} {tl : Tl} {d : PyData} (h : isAtt gs tl d = true) : ∃ n : Nat, d = .int (n : Int) ∧ AttOk gs tl n := by
  cases d with
  | int i =>
    have h' : (decide (0 ≤ i) && attB gs tl i.toNat) = true := h
    rw [Bool.and_eq_true, decide_eq_true_iff] at h'
    refine ⟨i.toNat, ?_, attB_iff.mp h'.2⟩
    rw [Int.toNat_of_nonneg h'.1]
  | _ => cases h
theorem isPair_of {gs : List Int} {tl : Tl} {d : PyData} (h : isPairD gs tl d = true) : ∃ i j : Nat, d = .tuple [.int (i : Int), .int (j : Int)] ∧ AttOk gs tl i ∧ AttOk gs tl j ∧ i < j := by
  unfold isPairD at h
  unfold twoD at h
  split at h
  · rename_i x y e
    split at e
    · rename_i x' y'
      cases e
      rw [Bool.and_eq_true, Bool.and_eq_true, decide_eq_true_iff] at h
      obtain ⟨n, rfl, hn⟩ := isAtt_int h.1
      obtain ⟨m, rfl, hm⟩ := isAtt_int h.2.1
      refine ⟨n, m, rfl, hn, hm, ?_⟩
      have := h.2.2
      simpa [natD] using this
    · cases e
  · cases h
section
variable {P : Program} {w : World} {K : PySem.W.Frag} {mg : Str → Option Value} {base : Heap}
/-! ### o.m(e) within a try -/
def tMethW (C : Addr) (m : Str) (sp : Sp) (E : L2.St → XK) (ta : TE) (t : TA) : TE := fun σ H Q => ta σ H fun x H1 => ∃ a dx fs, x = .ref a ∧ H1 a = some (.ins C dx fs) ∧ fs.lookup m = none ∧ t σ H1 fun vs H2 => sp (x :: vs) H2 Q (E σ)
theorem pe_methW {X : Cx} {CX : CXT} {k : Nat} {f C : Addr} {fd : FuncData} {ps : List Str} {sp : Sp} {E : L2.St → XK} {m : Str} {pos apos : Pos} {e o : Expr} {es : List Expr} {ta : TE} {t : TA} {pl : Sem Bool} (he : PE X o ta) (c : Cls X.K C) (hm : Meth X.K C m f)
    (F : FnOk X.prog X.w X.K X.mg X.base CX k f fd ps sp) (hr : Room k X.A) (hb : Binds X.K fd ps []) (hx : ∀ σ, PassesAt CX X σ (E σ)) (ha : PA X (e :: es) t)
    (hst : starEach (e :: es) X.env = (false, eval e X.env) :: starEach es X.env := by rfl) (hpl : (backTo pos (starEach es X.env)).any (·.1) = false := by rfl)
    (ht : eval (.Call (.Attribute o m apos) (e :: es) [] pos) X.env = (do
      let ov ← eval o X.env
      standAt apos.atName
      let (f, first) ← holding [ov] (getMethod ov m pl)
      callWith pos f first (backTo pos (starEach (e :: es) X.env)) (backToKw pos (keywordEach [] X.env))) := by rfl) :
    PE X (.Call (.Attribute o m apos) (e :: es) [] pos) (tMethW C m sp E ta t) := by
  refine ⟨fun pins s σ H Q I h => ?_⟩
  refine PySem.W.methodCall_KW (pl := pl) (thn (he.run pins s σ H _ I h) fun u s1 ⟨x, H1, I1, rx, a, dx, fs, ex, ea, l, q⟩ => ?_) ht
  subst ex
  obtain rfl : u = Value.ref a := rx
  refine getmeth_ok I1 ea c hm l ?_
  refine PySem.W.callWith_K (first := [.ref a]) (h₀ := X.base) I.ok.mod.kin hm.kp (thn (ha.run pos pins s1 σ H1 _ I1 q) fun us s2 ⟨vs, H2, I2, r, q2⟩ => ⟨I2.kIn, ?_⟩) hst hpl
  exact run_fnS (us := .ref a :: us) (vs := .ref a :: vs) F hr hb (hx σ) I2 (.cons rfl r) q2
/-! ### _is_attempt -/
structure Cat (K : PySem.W.Frag) (CA CL : Addr) : Prop where
  a : PySem.W.exmAny K (.ref CA) [.ref CA, .ref CL] = some true
  l : PySem.W.exmAny K (.ref CL) [.ref CA, .ref CL] = some true
def spIsAtt (C : Addr) : Sp := fun vs H Q _ => ∃ (p g t o a0 : Addr) (gs : List Int) (tl : Tl) (v : V) (d : PyData), vs = [.ref p, v] ∧ RuleAt C H p g t o gs tl ∧ Dx a0 H v d ∧ ∀ H', Same H H' → Q (.bl (isAtt gs tl d)) H'
theorem scIsAtt : FnScope ["rule", "value"] ["rule", "value"] (defScope s_is_attempt) := ⟨rfl, rfl, rfl, by decide +kernel, rfl, by decide +kernel, by decide +kernel⟩
theorem ok_isAtt {f C fO CA fA CL fL : Addr} {fd fdO : FuncData} (F : Fun K "_is_attempt" "_is_attempt" s_is_attempt f fd) (T : Txt K mg C) (X : Ers K mg CA fA CL fL) (Y : Cat K CA CL)
    (mO : Meth K C "offset" fO) (bO : Binds K fdO ["self", "attempt"] []) (GO : FnOk P w K mg base (L2.CX P w) 4 fO fdO ["self", "attempt"] (spOffR K C CA CL)) : FnOk P w K mg base CX0 5 f fd ["rule", "value"] (spIsAtt C) := by
  refine F.ok scIsAtt (fun vs H Q E h => ?_) (fun cdv A outer s H vs Q E hr h => ?_)
  · obtain ⟨p, g, t, o, a0, gs, tl, v, d, rfl, _⟩ := h
    rfl
  · obtain ⟨p, g, t, o, a0, gs, tl, v, d, rfl, R, D, k⟩ := h
    refine ⟨_, (pss_cons (Two.ps_try_two (tb := fun W => tDrop (tMethW C "offset" (spOffR K C CA CL) (WE W) (tVar 0) (tCons (tVar 1) tNil))) (ts := fun _ _ _ => tRet (tC (.bl false))) (Wout := fun _ _ _ _ => False) rfl rfl ⟨rfl, by decide, .inl X.ea.gC⟩ ⟨rfl, by decide, .inl X.el.gC⟩ takes0
        (fun W pn xe tk _ => pss_one (ps_expr (pe_methW (pv 0) T.cl mO GO hr bO (fun σ => passAt tk σ) (by exact (pa_cons (pv 1) pa_nil)))))
        (fun _ _ _ _ _ _ _ => pss_one (ps_ret pe_bl))) (pss_one (ps_ret pe_bl))), ?_⟩
    obtain ⟨dx, hob⟩ := R.ob
    refine ⟨_, rfl, p, dx, _, rfl, hob, flds_no _ _ _ (by decide +kernel) (by decide +kernel) (by decide +kernel), _, rfl, p, g, t, o, gs, tl, v, rfl, R, ?_⟩
    cases hI : isIntD d with
    | false =>
      have e : isAtt gs tl d = false := by cases d <;> first | rfl | cases hI
      rw [e] at k
      exact .inl ⟨.inl (D.odd hI), fun _ H' _ S _ => ⟨true, Y.a, fun _ _ _ => k H' S, fun z => nomatch z⟩⟩
    | true =>
      obtain ⟨i, rfl, rfl⟩ := D.int_of hI
      by_cases h0 : i < 0
      · have e : isAtt gs tl (.int i) = false := by
          show (decide (0 ≤ i) && _) = false
          rw [decide_eq_false (by omega)]
          rfl
        rw [e] at k
        exact .inl ⟨.inr ⟨i, rfl, .inl h0⟩, fun _ H' _ S _ => ⟨true, Y.a, fun _ _ _ => k H' S, fun z => nomatch z⟩⟩
      · obtain ⟨n, rfl⟩ : ∃ n : Nat, i = (n : Int) := ⟨i.toNat, by omega⟩
        have e : isAtt gs tl (.int (n : Int)) = attB gs tl n := by
          show (decide (0 ≤ (n : Int)) && attB gs tl (n : Int).toNat) = _
          rw [decide_eq_true (by omega), Int.toNat_natCast]
          rfl
        rw [e] at k
        by_cases hf : tl = .fin ∧ gs.length < n
        · obtain ⟨rfl, hn⟩ := hf
          have e2 : attB gs .fin n = false := decide_eq_false (by omega)
          rw [e2] at k
          exact .inl ⟨.inr ⟨_, rfl, .inr ⟨rfl, by omega⟩⟩, fun _ H' _ S _ => ⟨true, Y.a, fun _ _ _ => k H' S, fun z => nomatch z⟩⟩
        · refine .inr ⟨n, rfl, fun ok H' S => ?_, fun b hb h1 => ?_, fun e3 => ?_⟩
          · rw [attB_iff.mpr ok] at k
            exact k H' S
          · subst hb
            have e2 : attB gs (.times b) n = false := decide_eq_false (by omega)
            rw [e2] at k
            exact fun _ H' _ S _ => ⟨true, Y.l, fun _ _ _ => k H' S, fun z => nomatch z⟩
          · by_cases hl : n ≤ gs.length
            · exact hl
            · exact absurd ⟨e3, by omega⟩ hf
end
end RS
namespace RS
open PySem L2
theorem tup_no {d : PyData} (h : ∀ ds, d ≠ .tuple ds) : kitB (tyN d) "tuple" = some false := by
  cases d with
  | tuple x => exact absurd rfl (h x)
  | none => show kitB "NoneType" "tuple" = _; decide +kernel
  | bool x => show kitB "bool" "tuple" = _; decide +kernel
  | int x => show kitB "int" "tuple" = _; decide +kernel
  | str x => show kitB "str" "tuple" = _; decide +kernel
  | list x => show kitB "list" "tuple" = _; decide +kernel
  | dict x => show kitB "dict" "tuple" = _; decide +kernel
theorem two_no {d : PyData} (h : ∀ ds, d ≠ .tuple ds) : twoD d = none := by
  cases d with
  | tuple x => exact absurd rfl (h x)
  | _ => rfl
theorem two_len {ds : List PyData} (h : ds.length ≠ 2) : twoD (.tuple ds) = none := by
  match ds, h with
  | [], _ => rfl
  | [_], _ => rfl
  | [_, _], h => exact absurd rfl h
  | _ :: _ :: _ :: _, _ => rfl
theorem dx_two {a0 : Addr} {H : Hp} {xs : List V} {ds : List PyData} (h : DxAll a0 H xs ds) (n : ds.length = 2) : ∃ x y dx dy, xs = [x, y] ∧ ds = [dx, dy] ∧ Dx a0 H x dx ∧ Dx a0 H y dy := by
  match ds, h with
  | [], _ => cases n
  | [_], _ => cases n
  | [d1, d2], .cons h1 (.cons h2 .nil) => exact ⟨_, _, _, _, rfl, rfl, h1, h2⟩
  | _ :: _ :: _ :: _, _ => simp at n
section
variable {P : Program} {w : World} {K : PySem.W.Frag} {mg : Str → Option Value} {base : Heap}
/-! ### _is_pair -/
def spIsPair (C : Addr) : Sp := fun vs H Q _ => ∃ (p g t o a0 : Addr) (gs : List Int) (tl : Tl) (v : V) (d : PyData), vs = [.ref p, v] ∧ RuleAt C H p g t o gs tl ∧ Dx a0 H v d ∧ ∀ H', Same H H' → Q (.bl (isPairD gs tl d)) H'
theorem scIsPair : FnScope ["rule", "value"] ["rule", "value"] (defScope s_is_pair) := ⟨rfl, rfl, rfl, by decide +kernel, rfl, by decide +kernel, by decide +kernel⟩
theorem ok_isPair {f C fA : Addr} {fd fdA : FuncData} (F : Fun K "_is_pair" "_is_pair" s_is_pair f fd) (T : Txt K mg C)
    (GA : FnOk P w K mg base CX0 5 fA fdA ["rule", "value"] (spIsAtt C)) (bA : Binds K fdA ["rule", "value"] []) (mA : mg "_is_attempt" = some (.ref fA)) (kA : PySem.W.keepIn K (.ref fA) = true) : FnOk P w K mg base CX0 6 f fd ["rule", "value"] (spIsPair C) := by
  refine F.ok scIsPair (fun vs H Q E h => ?_) (fun cdv A outer s H vs Q E hr h => ?_)
  · obtain ⟨p, g, t, o, a0, gs, tl, v, d, rfl, _⟩ := h
    rfl
  · obtain ⟨p, g, t, o, a0, gs, tl, v, d, rfl, R, D, k⟩ := h
    refine ⟨_, (pss_cons (ps_if (PW.pt (pw_or (pt_not (pt_val (pe_callB call_isi (by rfl) T.isi (by decide +kernel) (pa_cons (pv 1) (pa_cons (pe_bltn (v := .ty "tuple") (by rfl) T.tuple (by decide +kernel) rfl) pa_nil))))) (pw_or1 (pt_cmpR op_ne (pe_callB call_len_seq (by rfl) T.len (by decide +kernel) (pa_cons (pv 1) pa_nil)) pe_int (nomark _))))) (pss_one (ps_ret pe_bl)) pss_nil) (pss_one (ps_ret (pe_and (pe_call GA hr rfl mA kA bA .nil pass0 (pa_cons (pv 0) (pa_cons (pe_ix ix_tup (pv 1) pe_int (fun _ _ => rfl)) pa_nil))) (pe_and (pe_call GA hr rfl mA kA bA .nil pass0 (pa_cons (pv 0) (pa_cons (pe_ix ix_tup (pv 1) pe_int (fun _ _ => rfl)) pa_nil))) (pe_one (pe_cmpR op_lt (pe_ix ix_tup (pv 1) pe_int (fun _ _ => rfl)) (pe_ix ix_tup (pv 1) pe_int (fun _ _ => rfl)) (nomark _)))))))), ?_⟩
    by_cases hT : ∃ ds, d = .tuple ds
    · obtain ⟨ds, rfl⟩ := hT
      cases D with
      | @tup q xs _ nq hq hxs =>
      refine ⟨_, rfl, _, _, _, _, _, rfl, .ty _, .base (.tup hq), kit_ty (r := true) (by decide +kernel), true, rfl, iteF ?_⟩
      refine ⟨_, rfl, q, _, rfl, .inr (SqT.of hq), rfl, _, rfl, ?_⟩
      have hlen := hxs.len
      by_cases hd2 : ds.length = 2
      · obtain ⟨x, y, dx, dy, rfl, rfl, Dx1, Dx2⟩ := dx_two hxs hd2
        refine iteFb (by rfl) ?_
        refine ⟨_, rfl, _, rfl, q, _, _, _, rfl, rfl, SqT.of hq, atI_nat (j := 0) rfl, p, g, t, o, a0, gs, tl, x, dx, rfl, R, Dx1, fun H1 S1 => ?_⟩
        have e : isPairD gs tl (.tuple [dx, dy]) = (isAtt gs tl dx && (isAtt gs tl dy && decide (natD dx < natD dy))) := rfl
        rw [e] at k
        refine ⟨isAtt gs tl dx, rfl, ?_⟩
        cases h1 : isAtt gs tl dx with
        | false =>
          rw [h1] at k
          exact iteF (k H1 S1)
        | true =>
          rw [h1] at k
          refine iteT ?_
          refine ⟨_, rfl, _, rfl, q, _, _, _, rfl, rfl, SqT.of (S1 _ _ hq), atI_nat (j := 1) rfl, p, g, t, o, a0, gs, tl, y, dy, rfl, R.mono S1, Dx2.same S1, fun H2 S2 => ?_⟩
          refine ⟨isAtt gs tl dy, rfl, ?_⟩
          cases h2 : isAtt gs tl dy with
          | false =>
            rw [h2] at k
            exact iteF (k H2 (S1.trans S2))
          | true =>
            rw [h2] at k
            obtain ⟨n, rfl, _⟩ := isAtt_int h1
            obtain ⟨m, rfl, _⟩ := isAtt_int h2
            cases Dx1
            cases Dx2
            have hq2 := S2 _ _ (S1 _ _ hq)
            refine iteT ⟨_, rfl, q, _, _, _, rfl, rfl, SqT.of hq2, atI_nat (j := 0) rfl, _, rfl, q, _, _, _, rfl, rfl, SqT.of hq2, atI_nat (j := 1) rfl, _, _, rfl, rfl, ?_⟩
            have e3 : decide (((n : Nat) : Int) < ((m : Nat) : Int)) = (true && (true && decide (natD (.int (n : Int)) < natD (.int (m : Int))))) := by
              show _ = decide (((n : Nat) : Int).toNat < ((m : Nat) : Int).toNat)
              rw [Int.toNat_natCast, Int.toNat_natCast]
              exact decide_eq_decide.mpr (by omega)
            rw [← e3] at k
            exact k H2 (S1.trans S2)
      · refine iteTb ?_ ?_
        · show (!decide (V.int _ = V.int 2)) = true
          rw [decide_eq_false (fun e => hd2 (by have := V.int.inj e; omega))]
          rfl
        · have e : isPairD gs tl (.tuple ds) = false := by unfold isPairD; rw [two_len hd2]
          rw [e] at k
          exact k H (Same.refl H)
    · have hT' : ∀ ds, d ≠ .tuple ds := fun ds e => hT ⟨ds, e⟩
      refine ⟨_, rfl, _, _, _, _, _, rfl, .ty _, D.ty, kit_ty (r := false) (tup_no hT'), false, rfl, iteT ?_⟩
      have e : isPairD gs tl d = false := by unfold isPairD; rw [two_no hT']
      rw [e] at k
      exact k H (Same.refl H)
/-! ### _difference -/
def spDif (C : Addr) : Sp := fun vs H Q _ => ∃ (p g t o q : Addr) (gs : List Int) (tl : Tl) (i j : Nat), vs = [.ref p, .ref q] ∧ RuleAt C H p g t o gs tl ∧ H q = some (.tup [.int (i : Int), .int (j : Int)]) ∧ AttOk gs tl i ∧ AttOk gs tl j ∧ ∀ H', Same H H' → Q (.int (off gs tl j - off gs tl i)) H'
theorem scDif : FnScope ["rule", "pair"] ["rule", "pair"] (defScope s_difference) := ⟨rfl, rfl, rfl, by decide +kernel, rfl, by decide +kernel, by decide +kernel⟩
theorem ok_dif {f C fO : Addr} {fd fdO : FuncData} (F : Fun K "_difference" "_difference" s_difference f fd) (T : Txt K mg C)
    (mO : Meth K C "offset" fO) (bO : Binds K fdO ["self", "attempt"] []) (GO : FnOk P w K mg base CX0 4 fO fdO ["self", "attempt"] (spOff C)) : FnOk P w K mg base CX0 5 f fd ["rule", "pair"] (spDif C) := by
  refine F.ok scDif (fun vs H Q E h => ?_) (fun cdv A outer s H vs Q E hr h => ?_)
  · obtain ⟨p, g, t, o, q, gs, tl, i, j, rfl, _⟩ := h
    rfl
  · obtain ⟨p, g, t, o, q, gs, tl, i, j, rfl, R, hq, hi, hj, k⟩ := h
    refine ⟨_, (pss_one (ps_ret (pe_op op_sub (pe_meth (pv 0) T.cl mO GO hr bO .nil pass0 (pa_cons (pe_ix ix_tup (pv 1) pe_int (fun _ _ => rfl)) pa_nil)) (pe_meth (pv 0) T.cl mO GO hr bO .nil pass0 (pa_cons (pe_ix ix_tup (pv 1) pe_int (fun _ _ => rfl)) pa_nil))))), ?_⟩
    have nO : (flds g t o).lookup ("offset" : Str) = none := flds_no _ _ _ (by decide +kernel) (by decide +kernel) (by decide +kernel)
    obtain ⟨dx, hob⟩ := R.ob
    refine ⟨_, rfl, p, dx, _, rfl, hob, nO, _, rfl, q, _, _, _, rfl, rfl, SqT.of hq, atI_nat (j := 1) rfl, p, g, t, o, gs, tl, j, rfl, R, hj, fun H1 S1 => ?_⟩
    refine ⟨_, rfl, p, dx, _, rfl, S1 _ _ hob, nO, _, rfl, q, _, _, _, rfl, rfl, SqT.of (S1 _ _ hq), atI_nat (j := 0) rfl, p, g, t, o, gs, tl, i, rfl, R.mono S1, hi, fun H2 S2 => ?_⟩
    exact ⟨_, _, rfl, rfl, k H2 (S1.trans S2)⟩
/-! ### is_repetition -/
def spIsRep (C : Addr) : Sp := fun vs H Q _ => ∃ (p g t o a0 : Addr) (gs : List Int) (tl : Tl) (v : V) (d : PyData), vs = [.ref p, v] ∧ RuleAt C H p g t o gs tl ∧ Dx a0 H v d ∧ ∀ H', Same H H' → Q (.bl (isRepD gs tl d)) H'
theorem scIsRep : FnScope ["rule", "value", "one", "other"] ["rule", "value"] (defScope s_is_repetition) := ⟨rfl, rfl, rfl, by decide +kernel, rfl, by decide +kernel, by decide +kernel⟩
theorem ok_isRep {f C fP fD : Addr} {fd fdP fdD : FuncData} (F : Fun K "is_repetition" "is_repetition" s_is_repetition f fd) (T : Txt K mg C)
    (GP : FnOk P w K mg base CX0 6 fP fdP ["rule", "value"] (spIsPair C)) (bP : Binds K fdP ["rule", "value"] []) (mP : mg "_is_pair" = some (.ref fP)) (kP : PySem.W.keepIn K (.ref fP) = true)
    (GD : FnOk P w K mg base CX0 5 fD fdD ["rule", "pair"] (spDif C)) (bD : Binds K fdD ["rule", "pair"] []) (mD : mg "_difference" = some (.ref fD)) (kD : PySem.W.keepIn K (.ref fD) = true) : FnOk P w K mg base CX0 7 f fd ["rule", "value"] (spIsRep C) := by
  refine F.ok scIsRep (fun vs H Q E h => ?_) (fun cdv A outer s H vs Q E hr h => ?_)
  · obtain ⟨p, g, t, o, a0, gs, tl, v, d, rfl, _⟩ := h
    rfl
  · obtain ⟨p, g, t, o, a0, gs, tl, v, d, rfl, R, D, k⟩ := h
    have hr5 := hr.mono (show 5 ≤ 6 by decide)
    refine ⟨_, (pss_cons (ps_if (PW.pt (pw_or (pt_not (pt_val (pe_callB call_isi (by rfl) T.isi (by decide +kernel) (pa_cons (pv 1) (pa_cons (pe_bltn (v := .ty "tuple") (by rfl) T.tuple (by decide +kernel) rfl) pa_nil))))) (pw_or1 (pt_cmpR op_ne (pe_callB call_len_seq (by rfl) T.len (by decide +kernel) (pa_cons (pv 1) pa_nil)) pe_int (nomark _))))) (pss_one (ps_ret pe_bl)) pss_nil) (pss_cons (ps_asg (pv 1) (pg_tup rfl (pgs_cons (pg_name (i := 2) scIsRep.nd rfl (Or.inl rfl)) (pgs_cons (pg_name (i := 3) scIsRep.nd rfl (Or.inl rfl)) pgs_nil)))) (pss_cons (ps_if (PW.pt (pw_or (pt_not (pt_val (pe_call GP hr rfl mP kP bP .nil pass0 (pa_cons (pv 0) (pa_cons (pv 2) pa_nil))))) (pw_or1 (pt_not (pt_val (pe_call GP hr rfl mP kP bP .nil pass0 (pa_cons (pv 0) (pa_cons (pv 3) pa_nil)))))))) (pss_one (ps_ret pe_bl)) pss_nil) (pss_one (ps_ret (pe_and (pe_cmpR op_ne (pe_ix ix_tup (pv 2) pe_int (fun _ _ => rfl)) (pe_ix ix_tup (pv 3) pe_int (fun _ _ => rfl)) (nomark _)) (pe_one (pe_cmpR op_eq (pe_call GD hr5 rfl mD kD bD .nil pass0 (pa_cons (pv 0) (pa_cons (pv 2) pa_nil))) (pe_call GD hr5 rfl mD kD bD .nil pass0 (pa_cons (pv 0) (pa_cons (pv 3) pa_nil))) (nomark _))))))))), ?_⟩
    by_cases hT : ∃ ds, d = .tuple ds
    · obtain ⟨ds, rfl⟩ := hT
      cases D with
      | @tup q xs _ nq hq hxs =>
      refine ⟨_, rfl, _, _, _, _, _, rfl, .ty _, .base (.tup hq), kit_ty (r := true) (by decide +kernel), true, rfl, iteF ?_⟩
      refine ⟨_, rfl, q, _, rfl, .inr (SqT.of hq), rfl, _, rfl, ?_⟩
      have hlen := hxs.len
      by_cases hd2 : ds.length = 2
      · obtain ⟨x, y, dx, dy, rfl, rfl, Dx1, Dx2⟩ := dx_two hxs hd2
        refine iteFb (by rfl) ?_
        refine ⟨_, rfl, q, _, rfl, SqT.of hq, rfl, _, _, rfl, _, _, rfl, rfl, ?_⟩
        refine ⟨_, rfl, _, rfl, p, g, t, o, a0, gs, tl, x, dx, rfl, R, Dx1, fun H1 S1 => ?_⟩
        have e : isRepD gs tl (.tuple [dx, dy]) = (isPairD gs tl dx && (isPairD gs tl dy && (!decide (fstN dx = fstN dy) && decide (diffD gs tl dx = diffD gs tl dy)))) := rfl
        rw [e] at k
        refine ⟨isPairD gs tl dx, rfl, ?_⟩
        cases h1 : isPairD gs tl dx with
        | false =>
          rw [h1] at k
          exact iteT (k H1 S1)
        | true =>
          rw [h1] at k
          refine iteF ?_
          refine ⟨_, rfl, _, rfl, p, g, t, o, a0, gs, tl, y, dy, rfl, R.mono S1, Dx2.same S1, fun H2 S2 => ?_⟩
          refine ⟨isPairD gs tl dy, rfl, ?_⟩
          cases h2 : isPairD gs tl dy with
          | false =>
            rw [h2] at k
            exact iteT (k H2 (S1.trans S2))
          | true =>
            rw [h2] at k
            refine iteF ?_
            obtain ⟨i, j, rfl, hi, hj, _⟩ := isPair_of h1
            obtain ⟨i2, j2, rfl, hi2, hj2, _⟩ := isPair_of h2
            have S := S1.trans S2
            have Dx1 := Dx1.same S
            have Dx2 := Dx2.same S
            cases Dx1 with
            | @tup q1 xs1 _ _ hq1 h1s =>
            cases Dx2 with
            | @tup q2 xs2 _ _ hq2 h2s =>
            rcases h1s with _ | ⟨z1, _ | ⟨z3, _ | _⟩⟩
            cases z1
            cases z3
            rcases h2s with _ | ⟨z1, _ | ⟨z3, _ | _⟩⟩
            cases z1
            cases z3
            refine ⟨_, rfl, q1, _, _, _, rfl, rfl, SqT.of hq1, atI_nat (j := 0) rfl, _, rfl, q2, _, _, _, rfl, rfl, SqT.of hq2, atI_nat (j := 0) rfl, rfl, _, rfl, ?_⟩
            have e1 : (!decide (V.int (i : Int) = V.int (i2 : Int))) = !decide (i = i2) := by
              congr 1
              exact decide_eq_decide.mpr ⟨fun e => by have := V.int.inj e; omega, fun e => by rw [e]⟩
            have ek : (true && (true && (!decide (fstN (.tuple [.int (i : Int), .int (j : Int)]) = fstN (.tuple [.int (i2 : Int), .int (j2 : Int)])) && decide (diffD gs tl (.tuple [.int (i : Int), .int (j : Int)]) = diffD gs tl (.tuple [.int (i2 : Int), .int (j2 : Int)]))))) = (!decide (i = i2) && decide (off gs tl j - off gs tl i = off gs tl j2 - off gs tl i2)) := by
              simp only [Bool.true_and, fstN, sndN, diffD, twoD, natD, Int.toNat_natCast]
              first | rfl | (congr 1 <;> first | rfl | (congr 1 <;> exact decide_eq_decide.mpr Iff.rfl) | exact decide_eq_decide.mpr Iff.rfl)
            rw [ek] at k
            rw [e1]
            cases hn : decide (i = i2) with
            | true =>
              rw [hn] at k
              exact iteF (k H2 S)
            | false =>
              rw [hn] at k
              refine iteT ?_
              refine ⟨_, rfl, _, rfl, p, g, t, o, q1, gs, tl, i, j, rfl, R.mono S, hq1, hi, hj, fun H3 S3 => ?_⟩
              refine ⟨_, rfl, _, rfl, p, g, t, o, q2, gs, tl, i2, j2, rfl, (R.mono S).mono S3, S3 _ _ hq2, hi2, hj2, fun H4 S4 => ⟨rfl, ?_⟩⟩
              have e4 : decide (V.int (off gs tl j - off gs tl i) = V.int (off gs tl j2 - off gs tl i2)) = (!false && decide (off gs tl j - off gs tl i = off gs tl j2 - off gs tl i2)) := by
                show _ = decide _
                exact decide_eq_decide.mpr ⟨fun e => V.int.inj e, fun e => by rw [e]⟩
              rw [e4]
              exact k H4 ((S.trans S3).trans S4)
      · refine iteTb ?_ ?_
        · show (!decide (V.int _ = V.int 2)) = true
          rw [decide_eq_false (fun e => hd2 (by have := V.int.inj e; omega))]
          rfl
        · have e : isRepD gs tl (.tuple ds) = false := by unfold isRepD; rw [two_len hd2]
          rw [e] at k
          exact k H (Same.refl H)
    · have hT' : ∀ ds, d ≠ .tuple ds := fun ds e => hT ⟨ds, e⟩
      refine ⟨_, rfl, _, _, _, _, _, rfl, .ty _, D.ty, kit_ty (r := false) (tup_no hT'), false, rfl, iteT ?_⟩
      have e : isRepD gs tl d = false := by unfold isRepD; rw [two_no hT']
      rw [e] at k
      exact k H (Same.refl H)
end
end RS
namespace RS
open PySem L2
section
variable {P : Program} {w : World} {K : PySem.W.Frag} {mg : Str → Option Value} {base : Heap}
/-! ### the law's gaps -/
theorem ints_dp {K : PySem.W.Frag} {H : Hp} : ∀ ns : List Int, DpAll K H (ns.map V.int) (ns.map PyData.int)
  | [] => .nil
  | n :: r => .cons (.int n) (ints_dp r)
theorem list_dp {K : PySem.W.Frag} {H : Hp} {a : Addr} {ns : List Int} (h : SqL K H a (ns.map V.int)) : Dp K H (.ref a) (.list (ns.map PyData.int)) := .lst h (ints_dp ns)
theorem list_eqv (ns ms : List Int) : PyData.eqv (.list (ns.map PyData.int)) (.list (ms.map PyData.int)) = decide (ns = ms) := PySem.W.ked_eqvAll ns ms
theorem pow4 {n : Nat} (h : n ≤ 6) : (10 : Int) * 4 ^ n ≤ 40960 := by
  have : n = 0 ∨ n = 1 ∨ n = 2 ∨ n = 3 ∨ n = 4 ∨ n = 5 ∨ n = 6 := by omega
  rcases this with rfl | rfl | rfl | rfl | rfl | rfl | rfl <;> decide
def spGps : Sp := fun vs H Q _ => ∃ (a : Addr) (b : Nat), vs = [.ref a] ∧ Src H a b ∧ b ≤ 50000 ∧
  ∀ (g : Addr) (gs : List Int) (H' : Hp), g ≠ a → H' g = some (.lst (gs.map V.int)) → GapsOk gs → Kx a H H' → Src H' a (b + 40) → Q (.ref g) H'
theorem scGps : FnScope ["_law_source", "_law_size", "_law_kind", "_law_first", "_law_factor", "_law_gaps_here", "_law_known", "_law_most", "_law_gap"] ["_law_source"] (defScope s_law_gaps) := ⟨rfl, rfl, rfl, by decide +kernel, rfl, by decide +kernel, by decide +kernel⟩
theorem ok_gps {f C fN fO : Addr} {fd fdN fdO : FuncData} (F : Fun K "_law_gaps" "_law_gaps" s_law_gaps f fd) (T : Txt K mg C) (zmin : mg "min" = none)
    (GN : FnOk P w K mg base CX0 1 fN fdN ["_law_source", "_law_bound"] spNext) (bN : Binds K fdN ["_law_source", "_law_bound"] []) (mN : mg "_law_draw" = some (.ref fN)) (kN : PySem.W.keepIn K (.ref fN) = true)
    (GO : FnOk P w K mg base CX0 2 fO fdO ["_law_source", "_law_options"] spOne) (bO : Binds K fdO ["_law_source", "_law_options"] []) (mO : mg "_law_choice" = some (.ref fO)) (kO : PySem.W.keepIn K (.ref fO) = true) : FnOk P w K mg base CX0 3 f fd ["_law_source"] spGps := by
  refine F.ok scGps (fun vs H Q E h => ?_) (fun cdv A outer s H vs Q E hr h => ?_)
  · obtain ⟨a, b, rfl, _⟩ := h
    rfl
  · obtain ⟨a, b, rfl, S, hb, k⟩ := h
    have hr1 := hr.mono (show 1 ≤ 2 by decide)
    refine ⟨_, (pss_cons (ps_set (i := 1) scGps.nd rfl (Or.inl rfl) (pe_call GO hr rfl mO kO bO .nil pass0 (pa_cons (pv 0) (pa_cons (pe_lst (pa_cons pe_int (pa_cons pe_int (pa_cons pe_int (pa_cons pe_int (pa_cons pe_int (pa_cons pe_int (pa_cons pe_int (pa_cons pe_int pa_nil))))))))) pa_nil)))) (pss_cons (ps_set (i := 2) scGps.nd rfl (Or.inl rfl) (pe_call GN hr1 rfl mN kN bN .nil pass0 (pa_cons (pv 0) (pa_cons pe_int pa_nil)))) (pss_cons (ps_if (pt_cmpR op_eq (pv 2) pe_int (nomark _)) (pss_cons (ps_par (i := 3) (j := 4) (by rfl) scGps.nd rfl rfl (by decide) rfl rfl (pa_cons (pe_op op_add pe_int (pe_call GN hr1 rfl mN kN bN .nil pass0 (pa_cons (pv 0) (pa_cons pe_int pa_nil)))) (pa_cons (pe_op op_add pe_int (pe_call GN hr1 rfl mN kN bN .nil pass0 (pa_cons (pv 0) (pa_cons pe_int pa_nil)))) pa_nil)) (by rfl)) (pss_cons (ps_set (i := 5) scGps.nd rfl (Or.inl rfl) (pe_lst (pa_cons (pv 3) pa_nil))) (pss_cons (ps_while PassesOwn.never (pt_cmpR op_lt (pe_callB call_len_seq (by rfl) T.len (by decide +kernel) (pa_cons (pv 5) pa_nil)) (pe_callB (call_min2 rfl) (by rfl) zmin (by decide +kernel) (pa_cons (pv 1) (pa_cons pe_int pa_nil))) (nomark _))
          (pss_one (ps_expr (pe_bm PySem.F.plainAttrs_list PySem.F.slot_list_append PySem.F.type_list_append mt_append (pv 5) (pa_cons (pe_op op_add (pe_op op_mul (pe_ix ix_list (pv 5) (pe_un un_neg pe_int) (fun _ _ => rfl)) (pv 4)) (pe_op op_fdiv (pe_call GN hr1 rfl mN kN bN .nil pass0 (pa_cons (pv 0) (pa_cons pe_int pa_nil))) pe_int)) pa_nil))))) (pss_one (ps_ret (pv 5)))))) pss_nil) (pss_cons (ps_if (pt_cmpR op_eq (pv 2) pe_int (nomark _)) (pss_cons (ps_set (i := 6) scGps.nd rfl (Or.inl rfl) (pe_lst (pa_cons (pe_lst (pa_cons pe_int (pa_cons pe_int (pa_cons pe_int pa_nil)))) (pa_cons (pe_lst (pa_cons pe_int (pa_cons pe_int (pa_cons pe_int (pa_cons pe_int pa_nil))))) (pa_cons (pe_lst (pa_cons pe_int (pa_cons pe_int pa_nil))) (pa_cons (pe_lst (pa_cons pe_int (pa_cons pe_int (pa_cons pe_int pa_nil)))) (pa_cons (pe_lst (pa_cons pe_int (pa_cons pe_int (pa_cons pe_int (pa_cons pe_int pa_nil))))) (pa_cons (pe_lst (pa_cons pe_int (pa_cons pe_int pa_nil))) (pa_cons (pe_lst (pa_cons pe_int (pa_cons pe_int pa_nil))) (pa_cons (pe_lst (pa_cons (pe_op op_pow pe_int pe_int) pa_nil)) pa_nil)))))))))) (pss_one (ps_ret (pe_call GO hr rfl mO kO bO .nil pass0 (pa_cons (pv 0) (pa_cons (pv 6) pa_nil)))))) pss_nil) (pss_cons (ps_set (i := 7) scGps.nd rfl (Or.inr rfl) (pe_call GO hr rfl mO kO bO .nil pass0 (pa_cons (pv 0) (pa_cons (pe_lst (pa_cons pe_int (pa_cons pe_int (pa_cons pe_int (pa_cons (pe_op op_pow pe_int pe_int) pa_nil))))) pa_nil)))) (pss_one (ps_ret (pe_lc (own := [("_law_gap", 8)]) (g := gName 8) (tt := tYes) rfl scGps.nd (pi_range1 rfl T.range (pa_cons (pv 1) pa_nil)) (blkOk_by (own := [("_law_gap", 8)]) (N := ["_law_source", "_law_size", "_law_kind", "_law_first", "_law_factor", "_law_gaps_here", "_law_known", "_law_most", "_law_gap"]) (sc := defScope s_law_gaps) (by decide +kernel))
        (fun _ _ _ _ _ => (pg_name (i := 8) scGps.nd rfl (Or.inl rfl))) (fun _ _ _ _ _ => pts_nil) (fun _ _ _ _ _ => (pe_op op_add pe_int (pe_call GN hr1 rfl mN kN bN .nil pass0 (pa_cons (pv 0) (pa_cons (pv 7) pa_nil))))))))))))), ?_⟩
    refine ⟨_, rfl, (by show 8 ≤ sizeLine; decide), fun q1 hq1 => ?_⟩
    have S1 : Same H (upd H q1 (.lst [.int 0, .int 1, .int 2, .int 3, .int 4, .int 5, .int 6, .int 20])) := same_new hq1
    refine ⟨a, q1, _, b, rfl, S.mono S1, by omega, (S.new hq1).symm, upd_same, by show 0 < 8; decide, by show 8 < 1000; decide, fun x H2 hx kx2 R2 => ?_⟩
    obtain ⟨sz, rfl, sz0, sz1⟩ : ∃ sz : Int, x = .int sz ∧ 0 ≤ sz ∧ sz ≤ 20 := by
      simp only [List.mem_cons, List.not_mem_nil, or_false] at hx
      rcases hx with rfl | rfl | rfl | rfl | rfl | rfl | rfl | rfl <;> exact ⟨_, rfl, by decide, by decide⟩
    have kx2 : Kx a H H2 := (Kx.of S1).trans kx2
    clear hx hq1 S1
    refine ⟨_, rfl, a, 4, b + 1, rfl, R2, by omega, by decide, by decide, fun kd H3 kd0 kd1 kx3 R3 => ?_⟩
    have kx3 : Kx a H H3 := kx2.trans kx3
    refine ⟨_, rfl, rfl, _, rfl, ?_⟩
    by_cases hk0 : kd = 0
    · refine iteTb (decide_eq_true (by rw [hk0])) ?_
      refine ⟨_, rfl, a, 5, b + 2, rfl, R3, by omega, by decide, by decide, fun r1 H4 r10 r11 kx4 R4 => ⟨_, _, rfl, rfl, _, rfl, a, 2, b + 3, rfl, R4, by omega, by decide, by decide, fun r2 H5 r20 r21 kx5 R5 => ⟨_, _, rfl, rfl, _, _, rfl, ?_⟩⟩⟩
      have kx5 : Kx a H H5 := kx3.trans (kx4.trans kx5)
      refine ⟨_, rfl, (by show 1 ≤ sizeLine; decide), fun D hD => ?_⟩
      have naD : a ≠ D := R5.new hD
      have hDH : H D = none := kx5.free naD.symm hD
      refine ⟨fun m σ H' => ∃ (gs : List Int) (l : Int) (i : Nat), m = 7 - i ∧ gs.length = i ∧ 1 ≤ i ∧ i ≤ 7 ∧ (∀ g ∈ gs, 1 ≤ g ∧ g ≤ 1000000000000) ∧ gs[i - 1]? = some l ∧ 1 ≤ l ∧ l ≤ 10 * 4 ^ (i - 1) ∧ σ = [some (.ref a), some (.int sz), some (.int kd), some (.int (1 + r1)), some (.int (2 + r2)), some (.ref D), none, none, none] ∧ H' D = some (.lst (gs.map V.int)) ∧ Kx a H H' ∧ Src H' a (b + 4 + i), ⟨6, [1 + r1], 1 + r1, 1, rfl, rfl, by omega, by omega, ?_, rfl, by omega, by show 1 + r1 ≤ 10 * 4 ^ 0; omega, rfl, upd_same, kx5.trans (Kx.of (same_new hD)), (R5.mono (same_new hD)).le (by omega)⟩, ?_⟩
      · intro g hg
        obtain rfl := List.mem_singleton.mp hg
        omega
      · rintro m σ H' ⟨gs, l, i, rfl, hl, hi1, hi7, hg, hgl, hl1, hl2, rfl, hd, kx, R⟩
        have hz : (gs.map V.int).length = i := by rw [List.length_map, hl]
        refine ⟨_, rfl, D, _, rfl, .inl (SqL.of hd), _, rfl, _, _, rfl, _, _, rfl, rfl, _, rfl, ?_⟩
        rw [hz]
        generalize hmn : (if (7 : Int) < sz then (7 : Int) else sz) = mn
        have hmn7 : mn ≤ 7 := by rw [← hmn]; split <;> omega
        by_cases hlt : (i : Int) < mn
        · refine iteTb (decide_eq_true hlt) ⟨fun σ' H2 => ∃ (gs : List Int) (l : Int), gs.length = i + 1 ∧ (∀ g ∈ gs, 1 ≤ g ∧ g ≤ 1000000000000) ∧ gs[i]? = some l ∧ 1 ≤ l ∧ l ≤ 10 * 4 ^ i ∧ σ' = [some (.ref a), some (.int sz), some (.int kd), some (.int (1 + r1)), some (.int (2 + r2)), some (.ref D), none, none, none] ∧ H2 D = some (.lst (gs.map V.int)) ∧ Kx a H H2 ∧ Src H2 a (b + 4 + (i + 1)), ?_, ?_⟩
          · rintro σ' H2 ⟨gs2, l2, e1, e2, e3, e4, e5, e6, e7, e8, e9⟩
            exact ⟨7 - (i + 1), by omega, gs2, l2, i + 1, rfl, e1, by omega, by omega, e2, e3, e4, e5, e6, e7, e8, e9⟩
          · have hp := pow4 (n := i - 1) (by omega)
            refine ⟨_, rfl, .inl ⟨rfl, _, SqL.of hd⟩, _, rfl, _, rfl, D, _, _, _, rfl, rfl, SqL.of hd, at_back1 (v := .int l) (by rw [hz]; omega) (by rw [hz, List.getElem?_map, hgl]; rfl), _, rfl, _, _, rfl, rfl, .inl ⟨by omega, by omega⟩, ?_⟩
            refine ⟨_, rfl, a, 9, b + 4 + i, rfl, R, by omega, by decide, by decide, fun r9 H6 r90 r91 kx6 R6 => ?_⟩
            have hd6 := kx6 D _ naD.symm hd
            refine ⟨_, _, rfl, rfl, ⟨by decide, by decide⟩, _, _, rfl, rfl, D, _, _, rfl, rfl, hd6, by rw [hz]; exact small1000 (by omega), ?_⟩
            have h3 : l * (2 + r2) ≤ l * 3 := Int.mul_le_mul_of_nonneg_left (by omega) (by omega)
            have h4 : l * 2 ≤ l * (2 + r2) := Int.mul_le_mul_of_nonneg_left (by omega) (by omega)
            have e4 : (10 : Int) * 4 ^ i = 4 * (10 * 4 ^ (i - 1)) := by
              rw [show i = (i - 1) + 1 by omega, Int.pow_succ, show i - 1 + 1 - 1 = i - 1 by omega]
              omega
            have h8 : r9 / 8 ≤ 1 := by omega
            have h80 : 0 ≤ r9 / 8 := by omega
            refine ⟨gs ++ [l * (2 + r2) + r9 / 8], l * (2 + r2) + r9 / 8, ?_, ?_, ?_, by omega, by omega, rfl, ?_, ?_, ?_⟩
            · rw [List.length_append, hl]
              rfl
            · intro g hm
              rcases List.mem_append.mp hm with hm | hm
              · exact hg g hm
              · obtain rfl := List.mem_singleton.mp hm
                omega
            · rw [List.getElem?_append_right (by omega), hl, Nat.sub_self]
              rfl
            · rw [upd_same, List.map_append]
              rfl
            · intro c u n e
              rw [upd_ne (ne_of_none e hDH)]
              exact kx6 c u n (kx c u n e)
            · obtain ⟨s0, s1, s2, h1, h2⟩ := R6.ex
              exact ⟨s0, s1, s2, by rw [upd_ne naD]; exact h1, by omega⟩
        · refine iteFb (decide_eq_false hlt) ?_
          exact ⟨_, rfl, k D gs H' naD.symm hd ⟨by omega, hg⟩ kx (R.le (by omega))⟩
    · refine iteFb (decide_eq_false fun e => hk0 (V.int.inj e)) ?_
      refine ⟨_, rfl, rfl, _, rfl, ?_⟩
      by_cases hk1 : kd = 1
      · refine iteTb (decide_eq_true (by rw [hk1])) ?_
        refine ⟨(by show 3 ≤ sizeLine; decide), fun l1 h1 => ⟨(by show 4 ≤ sizeLine; decide), fun l2 h2 => ⟨(by show 2 ≤ sizeLine; decide), fun l3 h3 => ⟨(by show 3 ≤ sizeLine; decide), fun l4 h4 => ⟨(by show 4 ≤ sizeLine; decide), fun l5 h5 => ⟨(by show 2 ≤ sizeLine; decide), fun l6 h6 => ⟨(by show 2 ≤ sizeLine; decide), fun l7 h7 => ⟨_, _, rfl, rfl, ⟨by decide, by decide, by decide⟩, (by show 1 ≤ sizeLine; decide), fun l8 h8 => ⟨(by show 8 ≤ sizeLine; decide), fun L hL => ?_⟩⟩⟩⟩⟩⟩⟩⟩⟩
        have s1 := same_new (o := .lst [V.int 1, .int 3, .int 2]) h1
        have s2 := same_new (o := .lst [V.int 1, .int 3, .int 5, .int 2]) h2
        have s3 := same_new (o := .lst [V.int 1, .int 1]) h3
        have s4 := same_new (o := .lst [V.int 2, .int 1, .int 3]) h4
        have s5 := same_new (o := .lst [V.int 4, .int 1, .int 2, .int 6]) h5
        have s6 := same_new (o := .lst [V.int 1, .int 2]) h6
        have s7 := same_new (o := .lst [V.int 5, .int 3]) h7
        have s8 := same_new (o := .lst [V.int ((10 : Int) ^ (12 : Int).toNat)]) h8
        have sL := same_new (o := .lst [V.ref l1, .ref l2, .ref l3, .ref l4, .ref l5, .ref l6, .ref l7, .ref l8]) hL
        have z8 := sL
        have z7 := s8.trans z8
        have z6 := s7.trans z7
        have z5 := s6.trans z6
        have z4 := s5.trans z5
        have z3 := s4.trans z4
        have z2 := s3.trans z3
        have z1 := s2.trans z2
        have e1 := z1 _ _ upd_same
        have e2 := z2 _ _ upd_same
        have e3 := z3 _ _ upd_same
        have e4 := z4 _ _ upd_same
        have e5 := z5 _ _ upd_same
        have e6 := z6 _ _ upd_same
        have e7 := z7 _ _ upd_same
        have e8 := z8 _ _ upd_same
        have z0 := s1.trans z1
        have R4 := R3.mono z0
        have kx4 : Kx a H _ := kx3.trans (Kx.of z0)
        have n1 := (R3.new h1).symm
        have n2 := ((R3.mono s1).new h2).symm
        have n3 := ((R3.mono (s1.trans s2)).new h3).symm
        have n4 := ((R3.mono ((s1.trans s2).trans s3)).new h4).symm
        have n5 := ((R3.mono (((s1.trans s2).trans s3).trans s4)).new h5).symm
        have n6 := ((R3.mono ((((s1.trans s2).trans s3).trans s4).trans s5)).new h6).symm
        have n7 := ((R3.mono (((((s1.trans s2).trans s3).trans s4).trans s5).trans s6)).new h7).symm
        have n8 := ((R3.mono ((((((s1.trans s2).trans s3).trans s4).trans s5).trans s6).trans s7)).new h8).symm
        have nL := ((R3.mono (((((((s1.trans s2).trans s3).trans s4).trans s5).trans s6).trans s7).trans s8)).new hL).symm
        refine ⟨_, rfl, _, rfl, a, L, _, b + 2, rfl, R4, by omega, nL, upd_same, by show 0 < 8; decide, by show 8 < 1000; decide, fun x H9 hx kx9 R9 => ?_⟩
        have fin : ∀ (g : Addr) (gs : List Int), g ≠ a → (upd _ L (.lst [V.ref l1, .ref l2, .ref l3, .ref l4, .ref l5, .ref l6, .ref l7, .ref l8])) g = some (.lst (gs.map V.int)) → GapsOk gs → Q (.ref g) H9 := fun g gs n e ok => k g gs H9 n (kx9 _ _ n e) ok (kx4.trans kx9) (R9.le (by omega))
        simp only [List.mem_cons, List.not_mem_nil, or_false] at hx
        rcases hx with rfl | rfl | rfl | rfl | rfl | rfl | rfl | rfl
        · exact fin l1 [1, 3, 2] n1 e1 ⟨by decide, by decide⟩
        · exact fin l2 [1, 3, 5, 2] n2 e2 ⟨by decide, by decide⟩
        · exact fin l3 [1, 1] n3 e3 ⟨by decide, by decide⟩
        · exact fin l4 [2, 1, 3] n4 e4 ⟨by decide, by decide⟩
        · exact fin l5 [4, 1, 2, 6] n5 e5 ⟨by decide, by decide⟩
        · exact fin l6 [1, 2] n6 e6 ⟨by decide, by decide⟩
        · exact fin l7 [5, 3] n7 e7 ⟨by decide, by decide⟩
        · exact fin l8 [(10 : Int) ^ (12 : Int).toNat] n8 e8 ⟨by decide, by decide⟩
      · refine iteFb (decide_eq_false fun e => hk1 (V.int.inj e)) ?_
        refine ⟨_, rfl, _, _, rfl, rfl, ⟨by decide, by decide, by decide⟩, (by show 4 ≤ sizeLine; decide), fun q2 hq2 => ?_⟩
        refine ⟨a, q2, _, b + 2, rfl, R3.mono (same_new hq2), by omega, (R3.new hq2).symm, upd_same, by show 0 < 4; decide, by show 4 < 1000; decide, fun x H4 hx kx4 R4 => ?_⟩
        obtain ⟨ms, rfl, ms1, ms2⟩ : ∃ ms : Int, x = .int ms ∧ 1 ≤ ms ∧ ms ≤ 1000000000000 := by
          simp only [List.mem_cons, List.not_mem_nil, or_false] at hx
          rcases hx with rfl | rfl | rfl | rfl <;> exact ⟨_, rfl, by decide, by decide⟩
        have kx4 : Kx a H H4 := kx3.trans ((Kx.of (same_new hq2)).trans kx4)
        refine ⟨_, rfl, sz, rfl, by omega, by omega, fun D hD => ?_⟩
        have naD : a ≠ D := R4.new hD
        refine lc_range (lo := 0) (n := sz.toNat) (fun i H' => ∃ gs : List Int, gs.length = i ∧ (∀ g ∈ gs, 1 ≤ g ∧ g ≤ 1000000000000) ∧ H' D = some (.lst (gs.map V.int)) ∧ Kx a H4 H' ∧ Src H' a (b + 3 + i)) ⟨[], rfl, fun g hg => (nomatch hg), upd_same, Kx.of (same_new hD), R4.mono (same_new hD)⟩ (fun i H' hi p => ?_) (fun H' p => ?_)
        · obtain ⟨gs, hl, hg, hd, kx, R⟩ := p
          refine ⟨rfl, ?_⟩
          refine yes_t (iteT ?_)
          refine ⟨_, rfl, _, rfl, a, ms, b + 3 + i, rfl, R, by omega, ms1, by omega, fun r H5 r0 r1 kx5 R5 => ⟨_, _, rfl, rfl, gs.map V.int, kx5 D _ naD.symm hd, ?_, gs ++ [1 + r], ?_, ?_, ?_, ?_, ?_⟩⟩
          · rw [List.length_map]
            exact small1000 (by omega)
          · rw [List.length_append, hl]
            rfl
          · intro g hm
            rcases List.mem_append.mp hm with hm | hm
            · exact hg g hm
            · obtain rfl := List.mem_singleton.mp hm
              omega
          · rw [upd_same, List.map_append]
            rfl
          · intro c u n e
            rw [upd_ne (ne_of_none e hD)]
            exact kx5 c u n (kx c u n e)
          · obtain ⟨s0, s1, s2, h1, h2⟩ := R5.ex
            exact ⟨s0, s1, s2, by rw [upd_ne naD]; exact h1, h2⟩
        obtain ⟨gs, hl, hg, hd, kx, R⟩ := p
        exact k D gs H' naD.symm hd ⟨by omega, hg⟩ (kx4.trans kx) (R.le (by omega))
end
end RS
namespace RS
open PySem L2
/-! ### the mathematics of offsets and gaps -/
def geo (b : Int) : Nat → Int
  | 0 => 0
  | k + 1 => geo b k + b ^ k
theorem geo_eq (b : Int) : ∀ k, b ^ k - 1 = (b - 1) * geo b k
  | 0 => by simp [geo]
  | k + 1 => by
    rw [geo, Int.mul_add, ← geo_eq b k, Int.pow_succ, Int.sub_mul, Int.one_mul, Int.mul_comm b (b ^ k)]
    omega
theorem geo_div {b : Int} (h : 2 ≤ b) (x : Int) (k : Nat) : x * (b ^ k - 1) / (b - 1) = x * geo b k := by
  rw [geo_eq, ← Int.mul_assoc, Int.mul_comm x (b - 1), Int.mul_assoc]
  exact Int.mul_ediv_cancel_left _ (by omega)
theorem off_low {gs : List Int} {tl : Tl} {n : Nat} (h : n ≤ gs.length) : off gs tl n = pre gs n := if_pos h
theorem off_times {gs : List Int} {b : Int} (h2 : 2 ≤ b) {n : Nat} (h : gs.length ≤ n) : off gs (.times b) n = pre gs gs.length + lastG gs * b * geo b (n - gs.length) := by
  by_cases e : n = gs.length
  · subst e
    rw [off_low (Nat.le_refl _), Nat.sub_self]
    simp [geo]
  · have e1 : off gs (.times b) n = pre gs gs.length + lastG gs * b * (b ^ (n - gs.length) - 1) / (b - 1) := if_neg (by omega)
    rw [e1, geo_div h2]
theorem off_rep {gs : List Int} {m : Nat} (h1 : 1 ≤ m) (h2 : m ≤ gs.length) {n : Nat} (h : gs.length ≤ n) : off gs (.rep m) n = pre gs (gs.length - m + (n - gs.length) % m) + (((n - gs.length) / m : Nat) + 1) * per gs m := by
  by_cases e : n = gs.length
  · subst e
    rw [off_low (Nat.le_refl _), Nat.sub_self, Nat.zero_mod, Nat.zero_div]
    unfold per
    simp
    omega
  · exact if_neg (by omega)
theorem gap_low {gs : List Int} {tl : Tl} {n : Nat} (h : n < gs.length) : gapf gs tl n = gs.getD n 0 := if_pos h
theorem gap_times {gs : List Int} {b : Int} {n : Nat} (h : gs.length ≤ n) : gapf gs (.times b) n = lastG gs * b ^ (n - gs.length + 1) := if_neg (by omega)
theorem gap_rep {gs : List Int} {m n : Nat} (h : gs.length ≤ n) : gapf gs (.rep m) n = gs.getD (gs.length - m + (n - gs.length) % m) 0 := if_neg (by omega)
theorem pre_succD {gs : List Int} {k : Nat} (h : k < gs.length) : pre gs (k + 1) = pre gs k + gs.getD k 0 := pre_succ gs (getD_get h)
/-- the next attempt lies one gap later -/
theorem off_succ {gs : List Int} {tl : Tl} (ok : TlOk gs.length tl) {n : Nat} (hf : tl = .fin → n < gs.length) : off gs tl (n + 1) = off gs tl n + gapf gs tl n := by
  by_cases h : n < gs.length
  · rw [off_low (by omega), off_low (by omega), gap_low h, pre_succD h]
  · cases tl with
    | fin => exact absurd (hf rfl) h
    | times b =>
      have h2 := ok.2.1
      rw [off_times h2 (by omega), off_times h2 (by omega), gap_times (by omega), show n + 1 - gs.length = (n - gs.length) + 1 by omega, geo, Int.mul_add, Int.pow_succ, Int.mul_assoc, Int.mul_assoc, Int.mul_comm (b ^ (n - gs.length)) b]
      omega
    | rep m =>
      have h1 : 1 ≤ m := ok.1
      have h2 : m ≤ gs.length := ok.2
      rw [off_rep h1 h2 (by omega), off_rep h1 h2 (by omega), gap_rep (by omega)]
      generalize hd : n - gs.length = d
      rw [show n + 1 - gs.length = d + 1 by omega]
      have hr : d % m < m := Nat.mod_lt _ (by omega)
      have e0 : m * (d / m) + d % m = d := Nat.div_add_mod d m
      by_cases hl : d % m + 1 < m
      · have e1 : (d + 1) % m = d % m + 1 := by
          rw [← e0, show m * (d / m) + d % m + 1 = (d % m + 1) + m * (d / m) by omega, Nat.add_mul_mod_self_left, Nat.mod_eq_of_lt hl, Nat.add_comm (m * (d / m)), Nat.add_mul_mod_self_left, Nat.mod_mod]
        have e2 : (d + 1) / m = d / m := by
          have h3 := Nat.div_add_mod (d + 1) m
          rw [e1] at h3
          have h4 : m * ((d + 1) / m) = m * (d / m) := by omega
          exact Nat.eq_of_mul_eq_mul_left (by omega) h4
        rw [e1, e2, show gs.length - m + (d % m + 1) = (gs.length - m + d % m) + 1 by omega, pre_succD (by omega)]
        omega
      · have e1 : d + 1 = m * (d / m + 1) := by
          rw [Nat.mul_add, Nat.mul_one]
          omega
        rw [e1, Nat.mul_mod_right, Nat.mul_div_cancel_left _ (by omega), show d % m = m - 1 by omega]
        have e3 : pre gs gs.length = pre gs (gs.length - m + (m - 1)) + gs.getD (gs.length - m + (m - 1)) 0 := by
          rw [← pre_succD (by omega), show gs.length - m + (m - 1) + 1 = gs.length by omega]
        have e4 : per gs m = pre gs gs.length - pre gs (gs.length - m) := rfl
        have e5 : ((d / m + 1 : Nat) + 1 : Int) * per gs m = ((d / m : Nat) + 1 : Int) * per gs m + per gs m := by
          rw [Int.natCast_add, Int.add_mul, Int.natCast_one, Int.one_mul]
        rw [e5, Nat.add_zero]
        omega
theorem gap_grow {gs : List Int} {b : Int} (h0 : 0 < gs.length) {n : Nat} (h : gs.length ≤ n) : gapf gs (.times b) n = gapf gs (.times b) (n - 1) * b := by
  rw [gap_times h]
  by_cases e : n = gs.length
  · subst e
    rw [gap_low (by omega), Nat.sub_self]
    show lastG gs * b ^ 1 = lastG gs * b
    rw [Int.pow_succ, Int.pow_zero, Int.one_mul]
  · rw [gap_times (by omega), show n - gs.length + 1 = (n - 1 - gs.length + 1) + 1 by omega, Int.pow_succ, Int.mul_assoc]
theorem off_later {gs : List Int} {m : Nat} (h1 : 1 ≤ m) (h2 : m ≤ gs.length) (a t : Nat) : off gs (.rep m) (a + gs.length + m * t) = off gs (.rep m) (a + gs.length) + (t : Int) * per gs m := by
  rw [off_rep h1 h2 (by omega), off_rep h1 h2 (by omega), show a + gs.length + m * t - gs.length = a + m * t by omega, show a + gs.length - gs.length = a by omega, Nat.add_mul_mod_self_left, Nat.add_mul_div_left _ _ (by omega), Int.natCast_add]
  rw [Int.add_mul, Int.add_mul, Int.add_mul]
  omega
theorem sum_take_drop (gs : List Int) (k : Nat) : (gs.take k).sum + (gs.drop k).sum = gs.sum := by
  rw [← List.sum_append, List.take_append_drop]
theorem per_sum {gs : List Int} (m : Nat) : (gs.drop (gs.length - m)).sum = per gs m := by
  have h := sum_take_drop gs (gs.length - m)
  have e : pre gs gs.length = gs.sum := by unfold pre; rw [List.take_length]
  unfold per
  rw [e]
  unfold pre
  omega
end RS
namespace RS
open PySem L2
/-! ### the offsets that the law computes gap by gap -/
theorem gap_back {gs : List Int} {m : Nat} (h1 : 1 ≤ m) (h2 : m ≤ gs.length) {j : Nat} (h : gs.length ≤ j) : gapf gs (.rep m) j = gapf gs (.rep m) (j - m) := by
  rw [gap_rep h]
  by_cases e : gs.length ≤ j - m
  · rw [gap_rep e, show j - gs.length = (j - m - gs.length) + m * 1 by omega, Nat.add_mul_mod_self_left]
  · rw [gap_low (by omega), Nat.mod_eq_of_lt (by omega), show gs.length - m + (j - gs.length) = j - m by omega]
def manyN (gs : List Int) : Tl → Nat
  | .fin => gs.length + 1
  | _ => 60
theorem manyN_bd {gs : List Int} (h : gs.length ≤ 20) : ∀ tl : Tl, 1 ≤ manyN gs tl ∧ manyN gs tl ≤ 60
  | .fin => ⟨show 1 ≤ gs.length + 1 by omega, show gs.length + 1 ≤ 60 by omega⟩
  | .times _ => ⟨show 1 ≤ 60 by decide, Nat.le_refl 60⟩
  | .rep _ => ⟨show 1 ≤ 60 by decide, Nat.le_refl 60⟩
def gapL (gs : List Int) (tl : Tl) (n : Nat) : List Int := (List.range n).map (gapf gs tl)
def offL (gs : List Int) (tl : Tl) (n : Nat) : List Int := (List.range n).map (off gs tl)
theorem gapL_len (gs : List Int) (tl : Tl) (n : Nat) : (gapL gs tl n).length = n := by simp [gapL]
theorem offL_len (gs : List Int) (tl : Tl) (n : Nat) : (offL gs tl n).length = n := by simp [offL]
theorem gapL_get (gs : List Int) (tl : Tl) {n k : Nat} (h : k < n) : (gapL gs tl n)[k]? = some (gapf gs tl k) := by
  unfold gapL
  rw [List.getElem?_map, List.getElem?_range h]
  rfl
theorem offL_get (gs : List Int) (tl : Tl) {n k : Nat} (h : k < n) : (offL gs tl n)[k]? = some (off gs tl k) := by
  unfold offL
  rw [List.getElem?_map, List.getElem?_range h]
  rfl
theorem gapL_succ (gs : List Int) (tl : Tl) (n : Nat) : gapL gs tl (n + 1) = gapL gs tl n ++ [gapf gs tl n] := by
  unfold gapL
  rw [List.range_succ, List.map_append]
  rfl
theorem offL_succ (gs : List Int) (tl : Tl) (n : Nat) : offL gs tl (n + 1) = offL gs tl n ++ [off gs tl n] := by
  unfold offL
  rw [List.range_succ, List.map_append]
  rfl
theorem gapL_low (gs : List Int) (tl : Tl) : gapL gs tl gs.length = gs := by
  refine List.ext_getElem? fun i => ?_
  by_cases h : i < gs.length
  · rw [gapL_get gs tl h, gap_low h, getD_get h]
  · rw [List.getElem?_eq_none (by rw [gapL_len]; omega), List.getElem?_eq_none (by omega)]
theorem gapL_take (gs : List Int) (tl : Tl) {n k : Nat} (h : k ≤ n) : (gapL gs tl n).take k = gapL gs tl k := by
  unfold gapL
  rw [← List.map_take, List.take_range, Nat.min_eq_left h]
end RS
namespace RS
open PySem L2
section
variable {P : Program} {w : World} {K : PySem.W.Frag} {mg : Str → Option Value} {base : Heap}
/-! ### the law's tail -/
def WordsOk (ws : List Str) : Prop := 0 < ws.length ∧ ws.length < 1000 ∧ ∀ x ∈ ws, x = "end" ∨ x = "times" ∨ x = "repeat"
def spTl : Sp := fun vs H Q _ => ∃ (a gl wl : Addr) (gs : List Int) (ws : List Str) (b : Nat), vs = [.ref a, .ref gl, .ref wl] ∧ Src H a b ∧ b ≤ 50000 ∧ gl ≠ a ∧ wl ≠ a ∧ H gl = some (.lst (gs.map V.int)) ∧ GapsOk gs ∧ H wl = some (.lst (ws.map V.str)) ∧ WordsOk ws ∧
  ∀ (t : Addr) (tl : Tl) (H' : Hp), t ≠ a → H' t = some (.tup tl.vs) → TlOk gs.length tl → (tl.word ∈ ws ∨ (tl = .fin ∧ gs = [])) → Kx a H H' → Src H' a (b + 10) → Q (.ref t) H'
theorem scTl : FnScope ["_law_source", "_law_gaps_here", "_law_words", "_law_word"] ["_law_source", "_law_gaps_here", "_law_words"] (defScope s_law_tail) := ⟨rfl, rfl, rfl, by decide +kernel, rfl, by decide +kernel, by decide +kernel⟩
theorem ok_tl {f C fN fO : Addr} {fd fdN fdO : FuncData} (F : Fun K "_law_tail" "_law_tail" s_law_tail f fd) (T : Txt K mg C)
    (GN : FnOk P w K mg base CX0 1 fN fdN ["_law_source", "_law_bound"] spNext) (bN : Binds K fdN ["_law_source", "_law_bound"] []) (mN : mg "_law_draw" = some (.ref fN)) (kN : PySem.W.keepIn K (.ref fN) = true)
    (GO : FnOk P w K mg base CX0 2 fO fdO ["_law_source", "_law_options"] spOne) (bO : Binds K fdO ["_law_source", "_law_options"] []) (mO : mg "_law_choice" = some (.ref fO)) (kO : PySem.W.keepIn K (.ref fO) = true) : FnOk P w K mg base CX0 3 f fd ["_law_source", "_law_gaps_here", "_law_words"] spTl := by
  refine F.ok scTl (fun vs H Q E h => ?_) (fun cdv A outer s H vs Q E hr h => ?_)
  · obtain ⟨a, gl, wl, gs, ws, b, rfl, _⟩ := h
    rfl
  · obtain ⟨a, gl, wl, gs, ws, b, rfl, S, hb, ngl, nwl, hg, okG, hw, okW, k⟩ := h
    have hr1 := hr.mono (show 1 ≤ 2 by decide)
    refine ⟨_, (pss_cons (ps_set (i := 3) scTl.nd rfl (Or.inl rfl) (pe_call GO hr rfl mO kO bO .nil pass0 (pa_cons (pv 0) (pa_cons (pv 2) pa_nil)))) (pss_cons (ps_if (PW.pt (pw_or (pt_cmpR (op_eqD hr.units) (pv 1) (pe_lst pa_nil) (nomark _)) (pw_or1 (pt_cmpR op_eq (pv 3) pe_str (nomark _))))) (pss_one (ps_ret (pe_tup (pa_cons pe_str pa_nil)))) pss_nil) (pss_cons (ps_if (pt_cmpR op_eq (pv 3) pe_str (nomark _)) (pss_one (ps_ret (pe_tup (pa_cons pe_str (pa_cons (pe_call GO hr rfl mO kO bO .nil pass0 (pa_cons (pv 0) (pa_cons (pe_lst (pa_cons pe_int (pa_cons pe_int (pa_cons pe_int (pa_cons pe_int (pa_cons pe_int (pa_cons (pe_op op_add pe_int (pe_call GN hr1 rfl mN kN bN .nil pass0 (pa_cons (pv 0) (pa_cons pe_int pa_nil)))) (pa_cons pe_int pa_nil)))))))) pa_nil))) pa_nil))))) pss_nil) (pss_one (ps_ret (pe_tup (pa_cons pe_str (pa_cons (pe_op op_add pe_int (pe_call GN hr1 rfl mN kN bN .nil pass0 (pa_cons (pv 0) (pa_cons (pe_callB call_len_seq (by rfl) T.len (by decide +kernel) (pa_cons (pv 1) pa_nil)) pa_nil)))) pa_nil)))))))), ?_⟩
    refine ⟨_, rfl, _, rfl, a, wl, _, b, rfl, S, by omega, nwl, hw, by rw [List.length_map]; exact okW.1, by rw [List.length_map]; exact okW.2.1, fun x H2 hx kx2 R2 => ?_⟩
    obtain ⟨wd, hwd, rfl⟩ := List.mem_map.mp hx
    have hwords := okW.2.2 wd hwd
    have hg2 := kx2 _ _ ngl hg
    refine ⟨_, rfl, (by show 0 ≤ sizeLine; decide), fun e0 he0 => ?_⟩
    have S3 : Same H2 (upd H2 e0 (.lst [])) := same_new he0
    refine ⟨_, _, list_dp (SqL.of (S3 _ _ hg2)), list_dp (ns := []) (SqL.of upd_same), PySem.W.ke_shaped_ints gs, PySem.W.ke_shaped_ints [], _, rfl, ?_⟩
    rw [list_eqv]
    have kx3 : Kx a H (upd H2 e0 (.lst [])) := kx2.trans (Kx.of S3)
    have hg3 := S3 _ _ hg2
    have R3 := R2.mono S3
    generalize hH3 : upd H2 e0 (.lst []) = H3 at hg3 kx3 R3
    have fin : (("end" : Str) ∈ ws ∨ gs = []) → ∀ D' : Ends, D'.rt = Q → tRet (tTup (tCons (tC (.str "end")) tNil)) D' [some (.ref a), some (.ref gl), some (.ref wl), some (.str wd)] H3 := by
      intro hy D' hD'
      refine ⟨(by show 1 ≤ sizeLine; decide), fun t ht => ?_⟩
      rw [hD']
      refine k t .fin _ (R3.new ht).symm upd_same True.intro ?_ (kx3.trans (Kx.of (same_new ht))) ((R3.mono (same_new ht)).le (by omega))
      exact hy.imp id fun e => ⟨rfl, e⟩
    by_cases hge : gs = []
    · refine iteTb (decide_eq_true hge) (iteT ?_)
      exact fin (.inr hge) _ rfl
    · refine iteFb (decide_eq_false hge) ?_
      have hlen : 0 < gs.length := List.length_pos_iff.mpr hge
      refine ⟨_, rfl, rfl, _, rfl, ?_⟩
      rcases hwords with rfl | rfl | rfl
      · exact iteTb wEE (fin (.inl hwd) _ rfl)
      · refine iteFb wTE ?_
        refine ⟨_, rfl, rfl, _, rfl, iteTb wTT ?_⟩
        refine ⟨_, rfl, _, rfl, a, 30, b + 1, rfl, R3, by omega, by decide, by decide, fun r H4 r0 r1 kx4 R4 => ⟨_, _, rfl, rfl, (by show 7 ≤ sizeLine; decide), fun q hq => ?_⟩⟩
        refine ⟨a, q, _, b + 2, rfl, R4.mono (same_new hq), by omega, (R4.new hq).symm, upd_same, by show 0 < 7; decide, by show 7 < 1000; decide, fun x H5 hx kx5 R5 => ?_⟩
        obtain ⟨bb, rfl, bb1, bb2⟩ : ∃ bb : Int, x = .int bb ∧ 2 ≤ bb ∧ bb ≤ 1000 := by
          simp only [List.mem_cons, List.not_mem_nil, or_false] at hx
          rcases hx with rfl | rfl | rfl | rfl | rfl | rfl | rfl <;> exact ⟨_, rfl, by omega, by omega⟩
        refine ⟨(by show 2 ≤ sizeLine; decide), fun t ht => ?_⟩
        exact k t (.times bb) _ (R5.new ht).symm upd_same ⟨hlen, bb1, bb2⟩ (.inl hwd) (kx3.trans (kx4.trans ((Kx.of (same_new hq)).trans (kx5.trans (Kx.of (same_new ht)))))) ((R5.mono (same_new ht)).le (by omega))
      · refine iteFb wRE ?_
        refine ⟨_, rfl, rfl, _, rfl, iteFb wRT ?_⟩
        refine ⟨_, rfl, _, rfl, gl, _, rfl, .inl (SqL.of hg3), a, (gs.length : Int), b + 1, ?_, R3, by omega, by omega, by have := okG.1; omega, fun r H4 r0 r1 kx4 R4 => ?_⟩
        · rw [List.length_map]
          rfl
        obtain ⟨j, rfl⟩ : ∃ j : Nat, r = (j : Int) := ⟨r.toNat, by omega⟩
        refine ⟨_, _, rfl, rfl, (by show 2 ≤ sizeLine; decide), fun t ht => ?_⟩
        exact k t (.rep (1 + j)) _ (R4.new ht).symm upd_same ⟨by omega, by omega⟩ (.inl hwd) (kx3.trans (kx4.trans (Kx.of (same_new ht)))) ((R4.mono (same_new ht)).le (by omega))
/-! ### the law's offsets, gap by gap -/
def manyC (gs : List Int) (n : Nat) : Tl → Nat
  | .fin => min n (gs.length + 1)
  | _ => n
def spOfs : Sp := fun vs H Q _ => ∃ (g t : Addr) (gs : List Int) (tl : Tl) (n : Nat), vs = [.ref g, .ref t, .int (n : Int)] ∧ 1 ≤ n ∧ n ≤ 500 ∧ H g = some (.lst (gs.map V.int)) ∧ H t = some (.tup tl.vs) ∧ GapsOk gs ∧ TlOk gs.length tl ∧
  ∀ p H', H p = none → Same H H' → H' p = some (.lst ((offL gs tl (manyC gs n tl)).map V.int)) → Q (.ref p) H'
theorem scOfs : FnScope ["_law_gaps_here", "_law_tail_here", "_law_count", "_law_result", "_law_listed", "_law_more"] ["_law_gaps_here", "_law_tail_here", "_law_count"] (defScope s_law_offsets) := ⟨rfl, rfl, rfl, by decide +kernel, rfl, by decide +kernel, by decide +kernel⟩
theorem ok_ofs {f C : Addr} {fd : FuncData} (F : Fun K "_law_offsets" "_law_offsets" s_law_offsets f fd) (T : Txt K mg C) : FnOk P w K mg base CX0 1 f fd ["_law_gaps_here", "_law_tail_here", "_law_count"] spOfs := by
  refine F.ok scOfs (fun vs H Q E h => ?_) (fun cdv A outer s H vs Q E hr h => ?_)
  · obtain ⟨g, t, gs, tl, n, rfl, _⟩ := h
    rfl
  · obtain ⟨g, t, gs, tl, n, rfl, hn1, hn5, hg, ht, okG, okT, k⟩ := h
    have hlen := okG.1
    refine ⟨_, (pss_cons (ps_set (i := 3) scOfs.nd rfl (Or.inl rfl) (pe_lst (pa_cons pe_int pa_nil))) (pss_cons (ps_set (i := 4) scOfs.nd rfl (Or.inl rfl) (pe_callTy call_list_of (by rfl) T.list (by decide +kernel) (pa_cons (pv 0) pa_nil))) (pss_cons (ps_while PassesOwn.never (PW.pt (pw_and (pt_cmpR op_lt (pe_callB call_len_seq (by rfl) T.len (by decide +kernel) (pa_cons (pv 3) pa_nil)) (pv 2) (nomark _)) (pw_and1 (PW.pt (pw_or (pt_cmpR op_le (pe_callB call_len_seq (by rfl) T.len (by decide +kernel) (pa_cons (pv 3) pa_nil)) (pe_callB call_len_seq (by rfl) T.len (by decide +kernel) (pa_cons (pv 0) pa_nil)) (nomark _)) (pw_or1 (pt_cmpR op_ne (pe_ix ix_tup (pv 1) pe_int (fun _ _ => rfl)) pe_str (nomark _))))))))
        (Evl.pss_cut (ps_if (pt_cmpR op_gt (pe_callB call_len_seq (by rfl) T.len (by decide +kernel) (pa_cons (pv 3) pa_nil)) (pe_callB call_len_seq (by rfl) T.len (by decide +kernel) (pa_cons (pv 4) pa_nil)) (nomark _)) (pss_cons (ps_set (i := 5) scOfs.nd rfl (Or.inl rfl) (pe_ifExp (pt_cmpR op_eq (pe_ix ix_tup (pv 1) pe_int (fun _ _ => rfl)) pe_str (nomark _)) (pe_op op_mul (pe_ix ix_list (pv 4) (pe_un un_neg pe_int) (fun _ _ => rfl)) (pe_ix ix_tup (pv 1) pe_int (fun _ _ => rfl))) (pe_ix ix_list (pv 4) (pe_un un_neg (pe_ix ix_tup (pv 1) pe_int (fun _ _ => rfl))) (fun _ _ => rfl)))) (pss_one (ps_expr (pe_bm PySem.F.plainAttrs_list PySem.F.slot_list_append PySem.F.type_list_append mt_append (pv 4) (pa_cons (pv 5) pa_nil))))) pss_nil) (pss_one (ps_expr (pe_bm PySem.F.plainAttrs_list PySem.F.slot_list_append PySem.F.type_list_append mt_append (pv 3) (pa_cons (pe_op op_add (pe_ix ix_list (pv 3) (pe_un un_neg pe_int) (fun _ _ => rfl)) (pe_ix ix_list (pv 4) (pe_op op_sub (pe_callB call_len_seq (by rfl) T.len (by decide +kernel) (pa_cons (pv 3) pa_nil)) pe_int) (fun _ _ => rfl))) pa_nil)))))) (pss_one (ps_ret (pv 3)))))), ?_⟩
    refine ⟨by show 1 ≤ sizeLine; decide, fun l hl => ?_⟩
    have S1 : Same H (upd H l (.lst [.int 0])) := same_new hl
    refine ⟨_, rfl, g, _, rfl, .inl (SqL.of (S1 _ _ hg)), fun sp hsp => ?_⟩
    have S2 : Same (upd H l (.lst [.int 0])) (upd (upd H l (.lst [.int 0])) sp (.lst (gs.map V.int))) := same_new hsp
    have hspH : H sp = none := S1.free hsp
    have nls : l ≠ sp := ne_of_none upd_same hsp
    refine ⟨fun m σ H' => ∃ j : Nat, m = n - j ∧ 1 ≤ j ∧ j ≤ n ∧ (tl = .fin → j ≤ gs.length + 1) ∧ (∃ v, σ = [some (.ref g), some (.ref t), some (.int (n : Int)), some (.ref l), some (.ref sp), v]) ∧ Same H H' ∧ H' l = some (.lst ((offL gs tl j).map V.int)) ∧ H' sp = some (.lst ((gapL gs tl (max gs.length (j - 1))).map V.int)), ⟨n - 1, 1, rfl, Nat.le_refl _, hn1, fun _ => by omega, ⟨none, rfl⟩, S1.trans S2, ?_, ?_⟩, ?_⟩
    · rw [S2 _ _ upd_same]
      show _ = some (HO.lst [V.int (off gs tl 0)])
      rw [off_low (Nat.zero_le _)]
      rfl
    · rw [Nat.max_eq_left (by omega), gapL_low]
      exact upd_same
    rintro m σ H' ⟨j, rfl, hj1, hjn, hjf, ⟨v5, rfl⟩, S, hr', hs'⟩
    have zl : ((offL gs tl j).map V.int).length = j := by rw [List.length_map, offL_len]
    have zs : ((gapL gs tl (max gs.length (j - 1))).map V.int).length = max gs.length (j - 1) := by rw [List.length_map, gapL_len]
    have fin : ∀ D' : Ends, D'.rt = Q → j = manyC gs n tl → tRet (tVar 3) D' [some (.ref g), some (.ref t), some (.int (n : Int)), some (.ref l), some (.ref sp), v5] H' := by
      intro D' hD' e
      refine ⟨_, rfl, ?_⟩
      rw [hD']
      rw [e] at hr'
      exact k l H' hl S hr'
    refine ⟨_, rfl, l, _, rfl, .inl (SqL.of hr'), _, rfl, _, _, rfl, rfl, _, rfl, ?_⟩
    rw [zl]
    by_cases hlt : j < n
    · refine iteTb (decide_eq_true (by omega)) ?_
      refine ⟨_, rfl, l, _, rfl, .inl (SqL.of hr'), _, rfl, g, _, rfl, .inl (SqL.of (S _ _ hg)), _, _, rfl, rfl, _, rfl, ?_⟩
      rw [zl, List.length_map]
      by_cases hle : j ≤ gs.length
      · refine iteTb (decide_eq_true (by omega)) (iteT ?_)
        refine ⟨fun σ' H2 => (∃ v, σ' = [some (.ref g), some (.ref t), some (.int (n : Int)), some (.ref l), some (.ref sp), v]) ∧ Same H H2 ∧ H2 l = some (.lst ((offL gs tl (j + 1)).map V.int)) ∧ H2 sp = some (.lst ((gapL gs tl (max gs.length j)).map V.int)), ?_, ?_⟩
        · rintro σ' H2 ⟨⟨v, rfl⟩, S2, h1, h2⟩
          exact ⟨n - (j + 1), by omega, j + 1, rfl, by omega, by omega, fun _ => by omega, ⟨v, rfl⟩, S2, h1, by rw [show j + 1 - 1 = j by omega]; exact h2⟩
        · refine ⟨fun σ' H2 => ∃ v, σ' = [some (.ref g), some (.ref t), some (.int (n : Int)), some (.ref l), some (.ref sp), v] ∧ Same H H2 ∧ H2 l = some (.lst ((offL gs tl j).map V.int)) ∧ H2 sp = some (.lst ((gapL gs tl (max gs.length j)).map V.int)), ?_, ?_⟩
          · refine ⟨_, rfl, l, _, rfl, .inl (SqL.of hr'), _, rfl, sp, _, rfl, .inl (SqL.of hs'), _, _, rfl, rfl, _, rfl, ?_⟩
            rw [zl, zs]
            refine iteFb (decide_eq_false (by omega)) ⟨v5, rfl, S, hr', ?_⟩
            rw [show max gs.length j = max gs.length (j - 1) by omega]
            exact hs'
          · rintro _ H2 ⟨v, rfl, S3, h1, h2⟩
            have hf : tl = .fin → j ≤ gs.length := fun _ => hle
            refine ⟨_, rfl, .inl ⟨rfl, _, SqL.of h1⟩, _, rfl, _, rfl, l, _, _, _, rfl, rfl, SqL.of h1, at_back1 (v := .int (off gs tl (j - 1))) (by rw [zl]; omega) (by rw [zl, List.getElem?_map, offL_get gs tl (by omega)]; rfl), ?_⟩
            refine ⟨_, rfl, _, rfl, l, _, rfl, .inl (SqL.of h1), _, _, rfl, rfl, sp, _, _, .int (gapf gs tl (j - 1)), rfl, rfl, SqL.of h2, ?_, _, _, rfl, rfl, l, _, _, rfl, rfl, h1, by rw [zl]; exact small1000 (by omega), ⟨v, rfl⟩, fun b o e => ?_, ?_, ?_⟩
            · rw [zl, show ((j : Nat) : Int) - 1 = ((j - 1 : Nat) : Int) by omega]
              exact at_map (gapL_get gs tl (by omega))
            · rw [upd_ne (ne_of_none e hl)]
              exact S3 b o e
            · rw [upd_same, offL_succ, List.map_append]
              show some (HO.lst (_ ++ [V.int (off gs tl (j - 1) + gapf gs tl (j - 1))])) = some (HO.lst (_ ++ [V.int (off gs tl j)]))
              rw [← off_succ okT (n := j - 1) (fun e => by have := hf e; omega), show j - 1 + 1 = j by omega]
            · rw [upd_ne nls.symm]
              exact h2
      · refine iteFb (decide_eq_false (by omega)) ?_
        refine ⟨_, rfl, t, _, _, _, rfl, rfl, SqT.of (S _ _ ht), tl.at0, rfl, _, rfl, ?_⟩
        by_cases htf : tl = .fin
        · subst htf
          refine iteFb (congrArg not wEE) ?_
          refine fin _ rfl ?_
          have := hjf rfl
          show j = min n (gs.length + 1)
          omega
        have hwd : (!decide (V.str tl.word = V.str "end")) = true := by
          cases tl with
          | fin => exact absurd rfl htf
          | times b => exact congrArg not wTE
          | rep m => exact congrArg not wRE
        refine iteTb hwd ?_
        refine ⟨fun σ' H2 => (∃ v, σ' = [some (.ref g), some (.ref t), some (.int (n : Int)), some (.ref l), some (.ref sp), v]) ∧ Same H H2 ∧ H2 l = some (.lst ((offL gs tl (j + 1)).map V.int)) ∧ H2 sp = some (.lst ((gapL gs tl (max gs.length j)).map V.int)), ?_, ?_⟩
        · rintro σ' H2 ⟨⟨v, rfl⟩, S2, h1, h2⟩
          exact ⟨n - (j + 1), by omega, j + 1, rfl, by omega, by omega, fun e => absurd e htf, ⟨v, rfl⟩, S2, h1, by rw [show j + 1 - 1 = j by omega]; exact h2⟩
        · refine ⟨fun σ' H2 => ∃ v, σ' = [some (.ref g), some (.ref t), some (.int (n : Int)), some (.ref l), some (.ref sp), v] ∧ Same H H2 ∧ H2 l = some (.lst ((offL gs tl j).map V.int)) ∧ H2 sp = some (.lst ((gapL gs tl (max gs.length j)).map V.int)), ?_, ?_⟩
          · refine ⟨_, rfl, l, _, rfl, .inl (SqL.of hr'), _, rfl, sp, _, rfl, .inl (SqL.of hs'), _, _, rfl, rfl, _, rfl, ?_⟩
            rw [zl, zs]
            have hmx : max gs.length (j - 1) = j - 1 := by omega
            rw [hmx] at hs' zs ⊢
            have hmj : max gs.length j = (j - 1) + 1 := by omega
            rw [hmj]
            refine iteTb (decide_eq_true (by omega)) ?_
            refine ⟨_, rfl, t, _, _, _, rfl, rfl, SqT.of (S _ _ ht), tl.at0, rfl, _, rfl, ?_⟩
            cases tl with
            | fin => exact absurd rfl htf
            | times b =>
              have hl0 : 0 < gs.length := okT.1
              refine iteTb wTT ?_
              refine ⟨_, rfl, _, rfl, sp, _, _, _, rfl, rfl, SqL.of hs', at_back1 (v := .int (gapf gs (.times b) (j - 1 - 1))) (by rw [zs]; omega) (by rw [zs, List.getElem?_map, gapL_get gs _ (by omega)]; rfl), _, rfl, t, _, _, _, rfl, rfl, SqT.of (S _ _ ht), atI_nat (j := 1) rfl, _, _, rfl, rfl, .inr ⟨by have := okT.2.1; omega, by have := okT.2.2; omega⟩, ?_⟩
              refine ⟨_, rfl, .inl ⟨rfl, _, SqL.of hs'⟩, _, rfl, sp, _, _, rfl, rfl, hs', by rw [zs]; exact small1000 (by omega), ⟨_, rfl, fun b' o' e => ?_, ?_, ?_⟩⟩
              · rw [upd_ne (ne_of_none e hspH)]
                exact S b' o' e
              · rw [upd_ne nls]
                exact hr'
              · rw [upd_same, gapL_succ, List.map_append, gap_grow (n := j - 1) hl0 (by omega)]
                rfl
            | rep m =>
              have hn0 : 1 ≤ m := okT.1
              have hn1 : m ≤ gs.length := okT.2
              refine iteFb wRT ?_
              refine ⟨_, rfl, _, rfl, t, _, _, _, rfl, rfl, SqT.of (S _ _ ht), atI_nat (j := 1) rfl, _, rfl, sp, _, _, _, rfl, rfl, SqL.of hs', at_back (v := .int (gapf gs (.rep m) (j - 1 - m))) (by omega) (by rw [zs]; omega) (by rw [zs, List.getElem?_map, gapL_get gs _ (by omega)]; rfl), ?_⟩
              refine ⟨_, rfl, .inl ⟨rfl, _, SqL.of hs'⟩, _, rfl, sp, _, _, rfl, rfl, hs', by rw [zs]; exact small1000 (by omega), ⟨_, rfl, fun b' o' e => ?_, ?_, ?_⟩⟩
              · rw [upd_ne (ne_of_none e hspH)]
                exact S b' o' e
              · rw [upd_ne nls]
                exact hr'
              · rw [upd_same, gapL_succ, List.map_append, gap_back (j := j - 1) hn0 hn1 (by omega)]
                rfl
          · rintro _ H2 ⟨v, rfl, S3, h1, h2⟩
            have hf : tl = .fin → j ≤ gs.length := fun e => absurd e htf
            refine ⟨_, rfl, .inl ⟨rfl, _, SqL.of h1⟩, _, rfl, _, rfl, l, _, _, _, rfl, rfl, SqL.of h1, at_back1 (v := .int (off gs tl (j - 1))) (by rw [zl]; omega) (by rw [zl, List.getElem?_map, offL_get gs tl (by omega)]; rfl), ?_⟩
            refine ⟨_, rfl, _, rfl, l, _, rfl, .inl (SqL.of h1), _, _, rfl, rfl, sp, _, _, .int (gapf gs tl (j - 1)), rfl, rfl, SqL.of h2, ?_, _, _, rfl, rfl, l, _, _, rfl, rfl, h1, by rw [zl]; exact small1000 (by omega), ⟨v, rfl⟩, fun b o e => ?_, ?_, ?_⟩
            · rw [zl, show ((j : Nat) : Int) - 1 = ((j - 1 : Nat) : Int) by omega]
              exact at_map (gapL_get gs tl (by omega))
            · rw [upd_ne (ne_of_none e hl)]
              exact S3 b o e
            · rw [upd_same, offL_succ, List.map_append]
              show some (HO.lst (_ ++ [V.int (off gs tl (j - 1) + gapf gs tl (j - 1))])) = some (HO.lst (_ ++ [V.int (off gs tl j)]))
              rw [← off_succ okT (n := j - 1) (fun e => by have := hf e; omega), show j - 1 + 1 = j by omega]
            · rw [upd_ne nls.symm]
              exact h2
    · refine iteFb (decide_eq_false (by omega)) (iteF ?_)
      refine fin _ rfl ?_
      cases tl with
      | fin => have := hjf rfl; show j = min n (gs.length + 1); omega
      | times b => show j = n; omega
      | rep m => show j = n; omega
end
end RS
/-! ### a op b op c op d -/
namespace L2
open PySem PySem.Spec PyProof.Rows
section
variable {X : Cx} {a b c d : Expr} {ta tb tc td : TE} {pos : Pos}
def tChain3 (r r' r'' : R2) (ta tb tc td : TE) : TE := fun σ H Q => ta σ H fun x H1 => tb σ H1 fun y H2 => r x y H2 fun z H3 => ∃ k, z = .bl k ∧
  (if k = true then tc σ H3 fun w H4 => r' y w H4 fun z2 H5 => ∃ k2, z2 = .bl k2 ∧ (if k2 = true then td σ H5 fun v H6 => r'' w v H6 Q else Q (.bl false) H5) else Q (.bl false) H3)
theorem pe_chain3 {op op' op'' : CmpOp} {r r' r'' : R2} (ho : OpR X (compareOp op) r) (ho' : OpR X (compareOp op') r') (ho'' : OpR X (compareOp op'') r'') (ha : PE X a ta) (hb : PE X b tb) (hc : PE X c tc) (hd : PE X d td)
    (hm : lastMarks [op, op', op''] [b, c, d] = false := by with_unfolding_all rfl) : PE X (.Compare a [op, op', op''] [b, c, d] pos) (tChain3 r r' r'' ta tb tc td) := by
  refine ⟨fun pins s σ H Q I h => ?_⟩
  refine Compare_chain (thn (ha.run pins s σ H _ I h) fun v s1 ⟨x, H1, I1, r1, q1⟩ => chain_link (thn (hb.run pins s1 σ H1 _ I1 q1) fun u s2 ⟨y, H2, I2, r2, q2⟩ =>
    thn (ho pins s2 σ H2 x y v u _ I2 r1 r2 q2) fun d s3 ⟨z, H3, I3, r3, k, e, q3⟩ => ?_)) hm
  subst e
  cases r3
  refine wpAny_truthy_bool ?_
  cases k with
  | false => exact ite_ff ⟨.bl false, H3, I3, rfl, q3⟩
  | true =>
    refine ite_tt (chain_link (thn (hc.run pins s3 σ H3 _ I3 q3) fun w' s4 ⟨z', H4, I4, r4, q4⟩ => thn (ho' pins s4 σ H4 y z' u w' _ I4 r2 r4 q4) fun d' s5 ⟨z2, H5, I5, r5, k2, e2, q5⟩ => ?_))
    subst e2
    cases r5
    refine wpAny_truthy_bool ?_
    cases k2 with
    | false => exact ite_ff ⟨.bl false, H5, I5, rfl, q5⟩
    | true => exact ite_tt (chain_last (thn (hd.run pins s5 σ H5 _ I5 q5) fun w2 s6 ⟨z3, H6, I6, r6, q6⟩ => ho'' pins s6 σ H6 z' z3 w' w2 Q I6 r4 r6 q6))
end
end L2
namespace RS
open PySem L2
def intD : PyData → Int
  | .int i => i
  | _ => 0
def plainD (n : Int) (d : PyData) : Bool := match twoD d with
  | some (x, y) => isIntD x && (isIntD y && (decide (0 ≤ intD x) && (decide (intD x < intD y) && decide (intD y < n))))
  | none => false
section
variable {P : Program} {w : World} {K : PySem.W.Frag} {mg : Str → Option Value} {base : Heap}
/-- isinstance(x, int), isinstance(x, bool) -/
def intK : PyData → Bool
  | .int _ => true
  | .bool _ => true
  | _ => false
def boolK : PyData → Bool
  | .bool _ => true
  | _ => false
theorem kit_int (d : PyData) : kitB (tyN d) "int" = some (intK d) := by
  cases d with
  | none => show kitB "NoneType" "int" = some false; decide +kernel
  | bool x => show kitB "bool" "int" = some true; decide +kernel
  | int x => show kitB "int" "int" = some true; decide +kernel
  | str x => show kitB "str" "int" = some false; decide +kernel
  | list x => show kitB "list" "int" = some false; decide +kernel
  | tuple x => show kitB "tuple" "int" = some false; decide +kernel
  | dict x => show kitB "dict" "int" = some false; decide +kernel
theorem kit_bool (d : PyData) : kitB (tyN d) "bool" = some (boolK d) := by
  cases d with
  | none => show kitB "NoneType" "bool" = some false; decide +kernel
  | bool x => show kitB "bool" "bool" = some true; decide +kernel
  | int x => show kitB "int" "bool" = some false; decide +kernel
  | str x => show kitB "str" "bool" = some false; decide +kernel
  | list x => show kitB "list" "bool" = some false; decide +kernel
  | tuple x => show kitB "tuple" "bool" = some false; decide +kernel
  | dict x => show kitB "dict" "bool" = some false; decide +kernel
def spPl : Sp := fun vs H Q _ => ∃ (a0 : Addr) (v : V) (d : PyData) (n : Int), vs = [v, .int n] ∧ Dx a0 H v d ∧ ∀ H', Same H H' → Q (.bl (plainD n d)) H'
theorem scPl : FnScope ["_law_value", "_law_count", "_law_one"] ["_law_value", "_law_count"] (defScope s_law_is_plain_pair) := ⟨rfl, rfl, rfl, by decide +kernel, rfl, by decide +kernel, by decide +kernel⟩
theorem ok_pl {f C : Addr} {fd : FuncData} (F : Fun K "_law_is_plain_pair" "_law_is_plain_pair" s_law_is_plain_pair f fd) (T : Txt K mg C) : FnOk P w K mg base CX0 1 f fd ["_law_value", "_law_count"] spPl := by
  refine F.ok scPl (fun vs H Q E h => ?_) (fun cdv A outer s H vs Q E hr h => ?_)
  · obtain ⟨a0, v, d, n, rfl, _⟩ := h
    rfl
  · obtain ⟨a0, v, d, n, rfl, D, k⟩ := h
    refine ⟨_, (pss_cons (ps_if (PW.pt (pw_or (pt_not (pt_val (pe_callB call_isi (by rfl) T.isi (by decide +kernel) (pa_cons (pv 0) (pa_cons (pe_bltn (v := .ty "tuple") (by rfl) T.tuple (by decide +kernel) rfl) pa_nil))))) (pw_or1 (pt_cmpR op_ne (pe_callB call_len_seq (by rfl) T.len (by decide +kernel) (pa_cons (pv 0) pa_nil)) pe_int (nomark _))))) (pss_one (ps_ret pe_bl)) pss_nil) (pss_cons (ps_if (pt_cmpR (op_neNil hr.units) (pe_lc (own := [("_law_one", 2)]) (g := gName 2) rfl scPl.nd (pi_tup (pv 0)) (blkOk_by (own := [("_law_one", 2)]) (N := ["_law_value", "_law_count", "_law_one"]) (sc := defScope s_law_is_plain_pair) (by decide +kernel))
          (fun _ _ _ _ _ => (pg_name (i := 2) scPl.nd rfl (Or.inl rfl))) (fun _ _ _ _ _ => pts_one (PW.pt (pw_or (pt_not (pt_val (pe_callB (r := rIsi K) (id := "isinstance") call_isi (by rfl) T.isi (by decide +kernel) (pa_cons (pv 2) (pa_cons (pe_bltn (v := .ty "int") (by rfl) T.int (by decide +kernel) rfl) pa_nil))))) (pw_or1 (pt_val (pe_callB (r := rIsi K) (id := "isinstance") call_isi (by rfl) T.isi (by decide +kernel) (pa_cons (pv 2) (pa_cons (pe_bltn (v := .ty "bool") (by rfl) T.bool (by decide +kernel) rfl) pa_nil)))))))) (fun _ _ _ _ _ => pv 2)) (pe_lst pa_nil) (nomark _)) (pss_one (ps_ret pe_bl)) pss_nil) (pss_one (ps_ret (pe_chain3 op_le op_lt op_lt pe_int (pe_ix ix_tup (pv 0) pe_int (fun _ _ => rfl)) (pe_ix ix_tup (pv 0) pe_int (fun _ _ => rfl)) (pv 1)))))), ?_⟩
    by_cases hT : ∃ ds, d = .tuple ds
    · obtain ⟨ds, rfl⟩ := hT
      cases D with
      | @tup q xs _ nq hq hxs =>
      refine ⟨_, rfl, _, _, _, _, _, rfl, .ty _, .base (.tup hq), kit_ty (r := true) (by decide +kernel), true, rfl, iteF ?_⟩
      refine ⟨_, rfl, q, _, rfl, .inr (SqT.of hq), rfl, _, rfl, ?_⟩
      have hlen := hxs.len
      by_cases hd2 : ds.length = 2
      · obtain ⟨x, y, dx, dy, rfl, rfl, Dx1, Dx2⟩ := dx_two hxs hd2
        refine iteFb (by rfl) ?_
        refine ⟨_, rfl, q, rfl, ⟨_, SqT.of hq⟩, fun L hL => lc_tup (a := q) (xs := [x, y]) (fun i H' => Same H H' ∧ ∃ acc, H' L = some (.lst acc) ∧ acc.length ≤ i ∧ (acc.isEmpty = (([dx, dy] : List PyData).take i).all isIntD)) ⟨same_new hL, [], upd_same, Nat.le_refl _, rfl⟩ (fun i H' _ p => SqT.of (p.1 _ _ hq)) (fun i z H' hz p => ?_) (fun H' p => ?_)⟩
        · obtain ⟨S, acc, hacc, hal, hemp⟩ := p
          obtain ⟨dz, hdz, Dz⟩ := (show DxAll a0 H [x, y] [dx, dy] from .cons Dx1 (.cons Dx2 .nil)).at hz
          have Dz := Dz.same S
          refine ⟨rfl, ?_⟩
          have etk : (([dx, dy] : List PyData).take (i + 1)).all isIntD = ((([dx, dy] : List PyData).take i).all isIntD && isIntD dz) := by
            rw [List.take_add_one, hdz, List.all_append]
            simp
          have keep : Same H H' ∧ ∃ acc, H' L = some (.lst acc) ∧ acc.length ≤ i ∧ (acc.isEmpty = (([dx, dy] : List PyData).take i).all isIntD) := ⟨S, acc, hacc, hal, hemp⟩
          have add : isIntD dz = false → ∃ acc, H' L = some (.lst acc) ∧ acc.length < sizeLine ∧ Same H (upd H' L (.lst (acc ++ [z]))) ∧ ∃ acc2, (upd H' L (.lst (acc ++ [z]))) L = some (.lst acc2) ∧ acc2.length ≤ i + 1 ∧ (acc2.isEmpty = (([dx, dy] : List PyData).take (i + 1)).all isIntD) := by
            intro hn
            have hi2 : i < 2 := (List.getElem?_eq_some_iff.mp hz).1
            refine ⟨acc, hacc, small1000 (by omega), fun b o e => ?_, _, upd_same, ?_, ?_⟩
            · rw [upd_ne (ne_of_none e hL)]
              exact S b o e
            · rw [List.length_append]
              show acc.length + 1 ≤ _
              omega
            · rw [etk, hn, Bool.and_false]
              cases acc <;> rfl
          refine ⟨_, rfl, _, _, _, _, _, rfl, .ty _, Dz.ty, kit_ty (r := intK dz) (kit_int dz), intK dz, rfl, ?_⟩
          cases hI : intK dz with
          | false =>
            have hn : isIntD dz = false := by cases dz <;> first | rfl | cases hI
            exact iteT (iteT ⟨_, rfl, add hn⟩)
          | true =>
            refine iteF ⟨_, rfl, _, _, _, _, _, rfl, .ty _, Dz.ty, kit_ty (r := boolK dz) (kit_bool dz), boolK dz, rfl, ?_⟩
            cases hB : boolK dz with
            | true =>
              have hn : isIntD dz = false := by cases dz <;> first | rfl | cases hB
              exact iteT ⟨_, rfl, add hn⟩
            | false =>
              have hy : isIntD dz = true := by cases dz <;> first | rfl | (cases hI; done) | (cases hB; done)
              refine iteF ⟨S, acc, hacc, by omega, ?_⟩
              rw [etk, hy, Bool.and_true]
              exact hemp
        · obtain ⟨S, acc, hacc, hal, hemp⟩ := p
          refine ⟨(by show 0 ≤ sizeLine; decide), fun l hl => ?_⟩
          have Sl : Same H' (upd H' l (.lst [])) := same_new hl
          refine ⟨L, l, acc, rfl, rfl, SqL.of (Sl _ _ hacc), SqL.of upd_same, _, rfl, ?_⟩
          have hemp' : acc.isEmpty = (isIntD dx && isIntD dy) := by
            rw [hemp]
            show (isIntD dx && (isIntD dy && true)) = _
            rw [Bool.and_true]
          rw [hemp']
          have e : plainD n (.tuple [dx, dy]) = (isIntD dx && (isIntD dy && (decide (0 ≤ intD dx) && (decide (intD dx < intD dy) && decide (intD dy < n))))) := rfl
          rw [e] at k
          have SS := S.trans Sl
          have hq2 := SS _ _ hq
          generalize (upd H' l (.lst [])) = H2 at SS hq2
          cases h1 : isIntD dx with
          | false =>
            rw [h1] at k
            exact iteT (k _ SS)
          | true =>
          cases h2 : isIntD dy with
          | false =>
            rw [h1, h2] at k
            exact iteT (k _ SS)
          | true =>
            rw [h1, h2] at k
            obtain ⟨i, rfl, rfl⟩ := Dx1.int_of h1
            obtain ⟨j, rfl, rfl⟩ := Dx2.int_of h2
            refine iteF ?_
            have k2 : ∀ H', Same H H' → Q (.bl (decide (0 ≤ i) && (decide (i < j) && decide (j < n)))) H' := k
            refine ⟨_, rfl, q, _, _, _, rfl, rfl, SqT.of hq2, atI_nat (j := 0) rfl, _, _, rfl, rfl, _, rfl, ?_⟩
            cases c1 : decide (0 ≤ i) with
            | false =>
              rw [c1] at k2
              exact iteF (k2 _ SS)
            | true =>
              rw [c1] at k2
              refine iteT ⟨_, rfl, q, _, _, _, rfl, rfl, SqT.of hq2, atI_nat (j := 1) rfl, _, _, rfl, rfl, _, rfl, ?_⟩
              cases c2 : decide (i < j) with
              | false =>
                rw [c2] at k2
                exact iteF (k2 _ SS)
              | true =>
                rw [c2] at k2
                exact iteT ⟨_, rfl, _, _, rfl, rfl, k2 _ SS⟩
      · refine iteTb ?_ ?_
        · show (!decide (V.int _ = V.int 2)) = true
          rw [decide_eq_false (fun e => hd2 (by have := V.int.inj e; omega))]
          rfl
        · have e : plainD n (.tuple ds) = false := by unfold plainD; rw [two_len hd2]
          rw [e] at k
          exact k H (Same.refl H)
    · have hT' : ∀ ds, d ≠ .tuple ds := fun ds e => hT ⟨ds, e⟩
      refine ⟨_, rfl, _, _, _, _, _, rfl, .ty _, D.ty, kit_ty (r := false) (tup_no hT'), false, rfl, iteT ?_⟩
      have e : plainD n d = false := by unfold plainD; rw [two_no hT']
      rw [e] at k
      exact k H (Same.refl H)
end
end RS
namespace RS
open PySem L2
def diffO (os : List Int) (d : PyData) : Int := os.getD (sndN d) 0 - os.getD (fstN d) 0
def dueD (os : List Int) (d : PyData) : Bool := match twoD d with
  | some (x, y) => plainD os.length x && (plainD os.length y && (!(decide (fstN x = fstN y) && decide (sndN x = sndN y)) && decide (diffO os x = diffO os y)))
  | none => false
theorem plain_of {n : Int} {d : PyData} (h : plainD n d = true) : ∃ i j : Nat, d = .tuple [.int (i : Int), .int (j : Int)] ∧ i < j ∧ (j : Int) < n := by
  unfold plainD at h
  unfold twoD at h
  split at h
  · rename_i x y e
    split at e
    · rename_i x' y'
      cases e
      cases x with
      | int i =>
        cases y with
        | int j =>
          have h' : (true && (true && (decide (0 ≤ i) && (decide (i < j) && decide (j < n))))) = true := h
          simp only [Bool.true_and, Bool.and_eq_true, decide_eq_true_eq] at h'
          refine ⟨i.toNat, j.toNat, ?_, by omega, by omega⟩
          rw [Int.toNat_of_nonneg h'.1, Int.toNat_of_nonneg (by omega)]
        | _ => simp [isIntD] at h
      | _ => simp [isIntD] at h
    · cases e
  · cases h
theorem getO {os : List Int} {k : Nat} (h : k < os.length) : os[k]? = some (os.getD k 0) := getD_get h
section
variable {P : Program} {w : World} {K : PySem.W.Frag} {mg : Str → Option Value} {base : Heap}
def rLenS (K : PySem.W.Frag) : List V → Hp → VK → Prop := fun xs H Q => ∃ p ys, xs = [.ref p] ∧ (SqL K H p ys ∨ SqT K H p ys) ∧ Q (.int (ys.length : Int)) H
theorem call_lenS {X : Cx} : CallR X (.builtin "len") (rLenS X.K) := call_len_seq
def spDue : Sp := fun vs H Q _ => ∃ (a0 o : Addr) (os : List Int) (v : V) (d : PyData), vs = [.ref o, v] ∧ H o = some (.lst (os.map V.int)) ∧ os.length ≤ 500 ∧ Dx a0 H v d ∧ ∀ H', Same H H' → Q (.bl (dueD os d)) H'
theorem scDue : FnScope ["_law_offsets_here", "_law_value", "_law_pair", "_law_gaps_here"] ["_law_offsets_here", "_law_value"] (defScope s_law_due) := ⟨rfl, rfl, rfl, by decide +kernel, rfl, by decide +kernel, by decide +kernel⟩
theorem ok_due {f C fP : Addr} {fd fdP : FuncData} (F : Fun K "_law_due" "_law_due" s_law_due f fd) (T : Txt K mg C)
    (GP : FnOk P w K mg base CX0 1 fP fdP ["_law_value", "_law_count"] spPl) (bP : Binds K fdP ["_law_value", "_law_count"] []) (mP : mg "_law_is_plain_pair" = some (.ref fP)) (kP : PySem.W.keepIn K (.ref fP) = true) : FnOk P w K mg base CX0 2 f fd ["_law_offsets_here", "_law_value"] spDue := by
  refine F.ok scDue (fun vs H Q E h => ?_) (fun cdv A outer s H vs Q E hr h => ?_)
  · obtain ⟨a0, o, os, v, d, rfl, _⟩ := h
    rfl
  · obtain ⟨a0, o, os, v, d, rfl, ho, hos, D, k⟩ := h
    refine ⟨_, (pss_cons (ps_if (PW.pt (pw_or (pt_not (pt_val (pe_callB call_isi (by rfl) T.isi (by decide +kernel) (pa_cons (pv 1) (pa_cons (pe_bltn (v := .ty "tuple") (by rfl) T.tuple (by decide +kernel) rfl) pa_nil))))) (pw_or1 (pt_cmpR op_ne (pe_callB call_len_seq (by rfl) T.len (by decide +kernel) (pa_cons (pv 1) pa_nil)) pe_int (nomark _))))) (pss_one (ps_ret pe_bl)) pss_nil) (pss_cons (ps_if (PW.pt (pw_or (pt_cmpR (op_neNil hr.units) (pe_lc (own := [("_law_pair", 2)]) (g := gName 2) rfl scDue.nd (pi_tup (pv 1)) (blkOk_by (own := [("_law_pair", 2)]) (N := ["_law_offsets_here", "_law_value", "_law_pair", "_law_gaps_here"]) (sc := defScope s_law_due) (by decide +kernel))
          (fun _ _ _ _ _ => (pg_name (i := 2) scDue.nd rfl (Or.inl rfl))) (fun _ _ _ _ _ => pts_one (pt_not (pt_val (pe_call GP hr rfl mP kP bP .nil pass0 (pa_cons (pv 2) (pa_cons (pe_callB (r := rLenS K) (id := "len") call_lenS (by rfl) T.len (by decide +kernel) (pa_cons (pv 0) pa_nil)) pa_nil)))))) (fun _ _ _ _ _ => pv 2)) (pe_lst pa_nil) (nomark _))
        (pw_or1 (pt_cmpR (op_eqD hr.units) (pe_ix ix_tup (pv 1) pe_int (fun _ _ => rfl)) (pe_ix ix_tup (pv 1) pe_int (fun _ _ => rfl)) (nomark _))))) (pss_one (ps_ret pe_bl)) pss_nil) (pss_cons (ps_setLc (i := 3) (own := [("_law_pair", 2)]) (g := gName 2) (tt := tYes) (by rfl) scDue.nd rfl rfl (sw_true rfl rfl rfl (by decide +kernel)) (pi_tup (pv 1)) (blkOk_by (own := [("_law_pair", 2)]) (N := ["_law_offsets_here", "_law_value", "_law_pair", "_law_gaps_here"]) (sc := defScope s_law_due) (by decide +kernel))
          (fun _ _ _ _ _ => (pg_name (i := 2) scDue.nd rfl (Or.inl rfl))) (fun _ _ _ _ _ => pts_nil) (fun _ _ _ _ _ => (pe_op op_sub (pe_ix (r := rIxL K) ix_list (pv 0) (pe_ix (r := rIxT K) ix_tup (pv 2) pe_int (fun _ _ => rfl)) (fun _ _ => rfl)) (pe_ix (r := rIxL K) ix_list (pv 0) (pe_ix (r := rIxT K) ix_tup (pv 2) pe_int (fun _ _ => rfl)) (fun _ _ => rfl))))) (pss_one (ps_ret (pe_cmpR op_eq (pe_ix ix_list (pv 3) pe_int (fun _ _ => rfl)) (pe_ix ix_list (pv 3) pe_int (fun _ _ => rfl)) (nomark _))))))), ?_⟩
    by_cases hT : ∃ ds, d = .tuple ds
    · obtain ⟨ds, rfl⟩ := hT
      cases D with
      | @tup q xs _ nq hq hxs =>
      refine ⟨_, rfl, _, _, _, _, _, rfl, .ty _, .base (.tup hq), kit_ty (r := true) (by decide +kernel), true, rfl, iteF ?_⟩
      refine ⟨_, rfl, q, _, rfl, .inr (SqT.of hq), rfl, _, rfl, ?_⟩
      have hlen := hxs.len
      by_cases hd2 : ds.length = 2
      · obtain ⟨x, y, dx, dy, rfl, rfl, Dx1, Dx2⟩ := dx_two hxs hd2
        refine iteFb (by rfl) ?_
        refine ⟨_, rfl, q, rfl, ⟨_, SqT.of hq⟩, fun L hL => lc_tup (a := q) (xs := [x, y]) (fun i H' => Same H H' ∧ ∃ acc, H' L = some (.lst acc) ∧ acc.length ≤ i ∧ (acc.isEmpty = (([dx, dy] : List PyData).take i).all (plainD os.length))) ⟨same_new hL, [], upd_same, Nat.le_refl _, rfl⟩ (fun i H' _ p => SqT.of (p.1 _ _ hq)) (fun i z H' hz p => ?_) (fun H' p => ?_)⟩
        · obtain ⟨S, acc, hacc, hal, hemp⟩ := p
          obtain ⟨dz, hdz, Dz⟩ := (show DxAll a0 H [x, y] [dx, dy] from .cons Dx1 (.cons Dx2 .nil)).at hz
          have Dz := Dz.same S
          refine ⟨rfl, ?_⟩
          have etk : (([dx, dy] : List PyData).take (i + 1)).all (plainD os.length) = ((([dx, dy] : List PyData).take i).all (plainD os.length) && plainD os.length dz) := by
            rw [List.take_add_one, hdz, List.all_append]
            simp
          have hi2 : i < 2 := (List.getElem?_eq_some_iff.mp hz).1
          refine ⟨_, rfl, _, rfl, o, _, rfl, .inl (SqL.of (S _ _ ho)), a0, z, dz, (os.length : Int), ?_, Dz, fun H2 S2 => ⟨plainD os.length dz, rfl, ?_⟩⟩
          · rw [List.length_map]
            rfl
          cases hP : plainD os.length dz with
          | false =>
            refine iteT ⟨_, rfl, acc, S2 _ _ hacc, small1000 (by omega), fun b o e => ?_, _, upd_same, ?_, ?_⟩
            · rw [upd_ne (ne_of_none e hL)]
              exact S2 b o (S b o e)
            · rw [List.length_append]
              show acc.length + 1 ≤ _
              omega
            · rw [etk, hP, Bool.and_false]
              cases acc <;> rfl
          | true =>
            refine iteF ⟨S.trans S2, acc, S2 _ _ hacc, by omega, ?_⟩
            rw [etk, hP, Bool.and_true]
            exact hemp
        · obtain ⟨S, acc, hacc, hal, hemp⟩ := p
          refine ⟨(by show 0 ≤ sizeLine; decide), fun l hl => ?_⟩
          have Sl : Same H' (upd H' l (.lst [])) := same_new hl
          refine ⟨L, l, acc, rfl, rfl, SqL.of (Sl _ _ hacc), SqL.of upd_same, _, rfl, ?_⟩
          have hemp' : acc.isEmpty = (plainD os.length dx && plainD os.length dy) := by
            rw [hemp]
            show (plainD os.length dx && (plainD os.length dy && true)) = _
            rw [Bool.and_true]
          rw [hemp']
          have e : dueD os (.tuple [dx, dy]) = (plainD os.length dx && (plainD os.length dy && (!(decide (fstN dx = fstN dy) && decide (sndN dx = sndN dy)) && decide (diffO os dx = diffO os dy)))) := rfl
          rw [e] at k
          have SS := S.trans Sl
          have hq2 := SS _ _ hq
          have ho2 := SS _ _ ho
          have Dx1 := Dx1.same SS
          have Dx2 := Dx2.same SS
          generalize (upd H' l (.lst [])) = H2 at SS hq2 ho2 Dx1 Dx2
          clear Sl hl
          cases h1 : plainD os.length dx with
          | false =>
            rw [h1] at k
            exact iteT (iteT (k _ SS))
          | true =>
          cases h2 : plainD os.length dy with
          | false =>
            rw [h1, h2] at k
            exact iteT (iteT (k _ SS))
          | true =>
            rw [h1, h2] at k
            obtain ⟨i, j, rfl, hij, hjn⟩ := plain_of h1
            obtain ⟨i2, j2, rfl, hij2, hjn2⟩ := plain_of h2
            cases Dx1 with
            | @tup q1 xs1 _ _ hq1 h1s =>
            cases Dx2 with
            | @tup q2 xs2 _ _ hq2' h2s =>
            rcases h1s with _ | ⟨z1, _ | ⟨z3, _ | _⟩⟩
            cases z1
            cases z3
            rcases h2s with _ | ⟨z1, _ | ⟨z3, _ | _⟩⟩
            cases z1
            cases z3
            have k2 : ∀ H', Same H H' → Q (.bl (!(decide (i = i2) && decide (j = j2)) && decide (os.getD j 0 - os.getD i 0 = os.getD j2 0 - os.getD i2 0))) H' := k
            refine iteF ?_
            refine ⟨_, rfl, q, _, _, _, rfl, rfl, SqT.of hq2, atI_nat (j := 0) rfl, _, rfl, q, _, _, _, rfl, rfl, SqT.of hq2, atI_nat (j := 1) rfl, _, _, .tup (SqT.of hq1) (.cons (.int _) (.cons (.int _) .nil)), .tup (SqT.of hq2') (.cons (.int _) (.cons (.int _) .nil)), rfl, rfl, _, rfl, ?_⟩
            have e2 : PyData.eqv (.tuple [.int (i : Int), .int (j : Int)]) (.tuple [.int (i2 : Int), .int (j2 : Int)]) = (decide (i = i2) && decide (j = j2)) := by
              show (((i : Int) == (i2 : Int)) && (((j : Int) == (j2 : Int)) && true)) = _
              have eb : ∀ a b : Nat, ((a : Int) == (b : Int)) = decide (a = b) := fun a b => by
                rw [Bool.eq_iff_iff, beq_iff_eq, decide_eq_true_iff]
                omega
              rw [Bool.and_true, eb, eb]
            rw [e2]
            cases hE : (decide (i = i2) && decide (j = j2)) with
            | true =>
              rw [hE] at k2
              exact iteT (k2 _ SS)
            | false =>
              rw [hE] at k2
              refine iteF ?_
              refine ⟨_, rfl, q, rfl, ⟨_, SqT.of hq2⟩, fun G hG => lc_tup (a := q) (xs := [.ref q1, .ref q2]) (fun m H' => Same H2 H' ∧ H' G = some (.lst ((([os.getD j 0 - os.getD i 0, os.getD j2 0 - os.getD i2 0] : List Int).take m).map V.int))) ⟨same_new hG, upd_same⟩ (fun m H' _ p => SqT.of (p.1 _ _ hq2)) (fun m z H' hz p => ?_) (fun H' p => ?_)⟩
              · obtain ⟨S4, hG4⟩ := p
                refine ⟨rfl, ?_⟩
                refine yes_t (iteT ?_)
                have hm2 : m < 2 := (List.getElem?_eq_some_iff.mp hz).1
                obtain ⟨qz, iz, jz, rfl, hqz, hjz, hiz, ez⟩ : ∃ (qz : Addr) (iz jz : Nat), z = .ref qz ∧ H2 qz = some (.tup [.int (iz : Int), .int (jz : Int)]) ∧ jz < os.length ∧ iz < os.length ∧ ([os.getD j 0 - os.getD i 0, os.getD j2 0 - os.getD i2 0] : List Int)[m]? = some (os.getD jz 0 - os.getD iz 0) := by
                  have : m = 0 ∨ m = 1 := by omega
                  rcases this with rfl | rfl
                  · have hz' : z = .ref q1 := by simpa using hz.symm
                    exact ⟨q1, i, j, hz', hq1, by omega, by omega, rfl⟩
                  · have hz' : z = .ref q2 := by simpa using hz.symm
                    exact ⟨q2, i2, j2, hz', hq2', by omega, by omega, rfl⟩
                have hqz4 := S4 _ _ hqz
                have ho4 := S4 _ _ ho2
                refine ⟨_, rfl, _, rfl, qz, _, _, _, rfl, rfl, SqT.of hqz4, atI_nat (j := 1) rfl, o, _, _, _, rfl, rfl, SqL.of ho4, at_map (getO hjz), _, rfl, _, rfl, qz, _, _, _, rfl, rfl, SqT.of hqz4, atI_nat (j := 0) rfl, o, _, _, _, rfl, rfl, SqL.of ho4, at_map (getO hiz), _, _, rfl, rfl, _, hG4, ?_, ?_, ?_⟩
                · rw [List.length_map, List.length_take]
                  exact small1000 (by omega)
                · intro b o e
                  rw [upd_ne (ne_of_none e hG)]
                  exact S4 b o e
                · rw [upd_same, List.take_add_one, ez, List.map_append]
                  rfl
              · obtain ⟨S4, hG4⟩ := p
                refine ⟨_, rfl, G, _, _, _, rfl, rfl, SqL.of hG4, atI_nat (j := 0) rfl, _, rfl, G, _, _, _, rfl, rfl, SqL.of hG4, atI_nat (j := 1) rfl, rfl, ?_⟩
                have e5 : decide (V.int (os.getD j 0 - os.getD i 0) = V.int (os.getD j2 0 - os.getD i2 0)) = (!false && decide (os.getD j 0 - os.getD i 0 = os.getD j2 0 - os.getD i2 0)) := by
                  show _ = decide _
                  exact decide_eq_decide.mpr ⟨fun e => V.int.inj e, fun e => by rw [e]⟩
                rw [e5]
                exact k2 _ (SS.trans S4)
      · refine iteTb ?_ ?_
        · show (!decide (V.int _ = V.int 2)) = true
          rw [decide_eq_false (fun e => hd2 (by have := V.int.inj e; omega))]
          rfl
        · have e : dueD os (.tuple ds) = false := by unfold dueD; rw [two_len hd2]
          rw [e] at k
          exact k H (Same.refl H)
    · have hT' : ∀ ds, d ≠ .tuple ds := fun ds e => hT ⟨ds, e⟩
      refine ⟨_, rfl, _, _, _, _, _, rfl, .ty _, D.ty, kit_ty (r := false) (tup_no hT'), false, rfl, iteT ?_⟩
      have e : dueD os d = false := by unfold dueD; rw [two_no hT']
      rw [e] at k
      exact k H (Same.refl H)
end
end RS
namespace RS
open PySem L2
/-! ### values that are no repetition -/
def TE (n : Nat) (tl : Tl) (d : PyData) : Prop := ∀ i, d = .int i → i < (n : Int) ∨ (1000 < i ∧ ∀ m, tl ≠ .rep m)
def Tame (n : Nat) (tl : Tl) (d : PyData) : Prop := ∀ p q r s, d = .tuple [.tuple [p, q], .tuple [r, s]] → TE n tl p ∧ TE n tl q ∧ TE n tl r ∧ TE n tl s
theorem te_nat {n : Nat} {tl : Tl} {i : Nat} (h : i < n) : TE n tl (.int (i : Int)) := fun j e => by cases e; exact .inl (by omega)
theorem te_neg {n : Nat} {tl : Tl} {i : Nat} (h : i < n) : TE n tl (.int (-1)) := fun j e => by cases e; exact .inl (by omega)
theorem te_odd {n : Nat} {tl : Tl} {d : PyData} (h : ∀ i, d ≠ .int i) : TE n tl d := fun i e => absurd e (h i)
theorem tame_two {n : Nat} {tl : Tl} {p q r s : PyData} (h1 : TE n tl p) (h2 : TE n tl q) (h3 : TE n tl r) (h4 : TE n tl s) : Tame n tl (.tuple [.tuple [p, q], .tuple [r, s]]) := fun _ _ _ _ e => by cases e; exact ⟨h1, h2, h3, h4⟩
def OneOk (a : Addr) (n : Nat) (tl : Tl) (H : Hp) (v : V) : Prop := ∃ d, Dx a H v d ∧ Tame n tl d
theorem OneOk.same {a : Addr} {n : Nat} {tl : Tl} {H H' : Hp} {v : V} (h : OneOk a n tl H v) (s : Same H H') : OneOk a n tl H' v := by
  obtain ⟨d, h1, h2⟩ := h
  exact ⟨d, Dx.same s h1, h2⟩
def OptsOk (a : Addr) (n : Nat) (tl : Tl) (H : Hp) (xs : List V) : Prop := ∀ x ∈ xs, OneOk a n tl H x
theorem OptsOk.nil {a : Addr} {n : Nat} {tl : Tl} {H : Hp} : OptsOk a n tl H [] := fun _ h => nomatch h
theorem OptsOk.cons {a : Addr} {n : Nat} {tl : Tl} {H : Hp} {x : V} {xs : List V} (h : OneOk a n tl H x) (r : OptsOk a n tl H xs) : OptsOk a n tl H (x :: xs) := fun y hy => by
  rcases List.mem_cons.mp hy with rfl | hy
  · exact h
  · exact r y hy
theorem OptsOk.append {a : Addr} {n : Nat} {tl : Tl} {H : Hp} {xs ys : List V} (h : OptsOk a n tl H xs) (r : OptsOk a n tl H ys) : OptsOk a n tl H (xs ++ ys) := fun y hy => by
  rcases List.mem_append.mp hy with hy | hy
  · exact h y hy
  · exact r y hy
theorem OptsOk.same {a : Addr} {n : Nat} {tl : Tl} {H H' : Hp} {xs : List V} (s : Same H H') (h : OptsOk a n tl H xs) : OptsOk a n tl H' xs := fun y hy => (h y hy).same s
structure Bun (a q q1 q2 t : Addr) (lo hi x y b : Nat) (tl : Tl) (H0 H : Hp) : Prop where
  S : Same H0 H
  R : Src H a b
  eq : H q = some (.tup [.ref q1, .ref q2])
  e1 : H q1 = some (.tup [.int (lo : Int), .int (hi : Int)])
  e2 : H q2 = some (.tup [.int (x : Int), .int (y : Int)])
  et : H t = some (.tup tl.vs)
  n1 : q1 ≠ a
  n2 : q2 ≠ a
theorem Bun.mono {a q q1 q2 t : Addr} {lo hi x y b : Nat} {tl : Tl} {H0 H H' : Hp} (B : Bun a q q1 q2 t lo hi x y b tl H0 H) (s : Same H H') : Bun a q q1 q2 t lo hi x y b tl H0 H' :=
  ⟨B.S.trans s, B.R.mono s, s _ _ B.eq, s _ _ B.e1, s _ _ B.e2, s _ _ B.et, B.n1, B.n2⟩
theorem Dx.same' {a0 : Addr} {H H' : Hp} {v : V} {d : PyData} (h : Dx a0 H v d) (s : Same H H') : Dx a0 H' v d := Dx.same s h
theorem Bun.d1 {a q q1 q2 t : Addr} {lo hi x y b : Nat} {tl : Tl} {H0 H : Hp} (B : Bun a q q1 q2 t lo hi x y b tl H0 H) : Dx a H (.ref q1) (.tuple [.int (lo : Int), .int (hi : Int)]) := .tup B.n1 B.e1 (.cons (.int _) (.cons (.int _) .nil))
theorem Bun.d2 {a q q1 q2 t : Addr} {lo hi x y b : Nat} {tl : Tl} {H0 H : Hp} (B : Bun a q q1 q2 t lo hi x y b tl H0 H) : Dx a H (.ref q2) (.tuple [.int (x : Int), .int (y : Int)]) := .tup B.n2 B.e2 (.cons (.int _) (.cons (.int _) .nil))
section
variable {P : Program} {w : World} {K : PySem.W.Frag} {mg : Str → Option Value} {base : Heap}
def spCh : Sp := fun vs H Q _ => ∃ (a q q1 q2 t : Addr) (lo hi x y n b : Nat) (tl : Tl), vs = [.ref a, .ref q, .ref t] ∧ Src H a b ∧ b ≤ 50000 ∧ H q = some (.tup [.ref q1, .ref q2]) ∧ H q1 = some (.tup [.int (lo : Int), .int (hi : Int)]) ∧ H q2 = some (.tup [.int (x : Int), .int (y : Int)]) ∧ H t = some (.tup tl.vs) ∧ q1 ≠ a ∧ q2 ≠ a ∧
  lo < n ∧ hi < n ∧ x < n ∧ y < n ∧ ∀ v d H', Dx a H' v d → Tame n tl d → Kx a H H' → Src H' a (b + 1) → Q v H'
theorem scCh : FnScope ["_law_source", "_law_value", "_law_tail_here", "_law_one", "_law_other", "_law_options"] ["_law_source", "_law_value", "_law_tail_here"] (defScope s_law_changed) := ⟨rfl, rfl, rfl, by decide +kernel, rfl, by decide +kernel, by decide +kernel⟩
theorem ok_ch {f C fO : Addr} {fd fdO : FuncData} (F : Fun K "_law_changed" "_law_changed" s_law_changed f fd) (T : Txt K mg C)
    (GO : FnOk P w K mg base CX0 2 fO fdO ["_law_source", "_law_options"] spOne) (bO : Binds K fdO ["_law_source", "_law_options"] []) (mO : mg "_law_choice" = some (.ref fO)) (kO : PySem.W.keepIn K (.ref fO) = true) : FnOk P w K mg base CX0 3 f fd ["_law_source", "_law_value", "_law_tail_here"] spCh := by
  refine F.ok scCh (fun vs H Q E h => ?_) (fun cdv A outer s H0 vs Q E hr h => ?_)
  · obtain ⟨a, q, q1, q2, t, lo, hi, x, y, n, b, tl, rfl, _⟩ := h
    rfl
  · obtain ⟨a, q, q1, q2, t, lo, hi, x, y, n, b, tl, rfl, R, hb, hq, hq1, hq2, ht, n1, n2, hlo, hhi, hx, hy, k⟩ := h
    refine ⟨_, (pss_cons (ps_asg (pv 1) (pg_tup rfl (pgs_cons (pg_name (i := 3) scCh.nd rfl (Or.inl rfl)) (pgs_cons (pg_name (i := 4) scCh.nd rfl (Or.inl rfl)) pgs_nil)))) (pss_cons (ps_set (i := 5) scCh.nd rfl (Or.inl rfl) (pe_lst (pa_cons (pe_callTy call_list_of (by rfl) T.list (by decide +kernel) (pa_cons (pv 1) pa_nil)) (pa_cons (pe_tup (pa_cons (pv 3) pa_nil)) (pa_cons (pe_tup (pa_cons (pv 3) (pa_cons (pv 4) (pa_cons (pv 3) pa_nil)))) (pa_cons (pe_tup (pa_cons (pv 3) (pa_cons (pv 3) pa_nil))) (pa_cons (pe_tup (pa_cons (pe_revT2 (pv 3)) (pa_cons (pv 4) pa_nil))) (pa_cons (pe_tup (pa_cons (pe_callTy call_list_of (by rfl) T.list (by decide +kernel) (pa_cons (pv 3) pa_nil)) (pa_cons (pv 4) pa_nil))) (pa_cons pe_non (pa_cons pe_int pa_nil)))))))))) (pss_cons (ps_set (i := 5) scCh.nd rfl (Or.inl rfl) (pe_op op_cat (pv 5) (pe_lst (pa_cons (pe_tup (pa_cons (pv 3) (pa_cons (pe_tup (pa_cons (pe_ix ix_tup (pv 4) pe_int (fun _ _ => rfl)) (pa_cons pe_bl pa_nil))) pa_nil))) (pa_cons (pe_tup (pa_cons (pv 3) (pa_cons (pe_tup (pa_cons pe_bl (pa_cons (pe_ix ix_tup (pv 4) pe_int (fun _ _ => rfl)) pa_nil))) pa_nil))) (pa_cons (pe_tup (pa_cons (pe_tup (pa_cons (pe_un un_neg pe_int) (pa_cons (pe_ix ix_tup (pv 3) pe_int (fun _ _ => rfl)) pa_nil))) (pa_cons (pv 4) pa_nil))) (pa_cons (pe_tup (pa_cons (pv 3) (pa_cons (pe_slice sl_tup (pv 4) po_none (po_some pe_int)) pa_nil))) pa_nil))))))) (pss_cons (ps_set (i := 5) scCh.nd rfl (Or.inl rfl) (pe_op op_cat (pv 5) (pe_lst (pa_cons (pe_tup (pa_cons (pv 3) (pa_cons (pe_tup (pa_cons (pe_ix ix_tup (pv 4) pe_int (fun _ _ => rfl)) (pa_cons pe_non pa_nil))) pa_nil))) (pa_cons (pe_tup (pa_cons (pv 3) (pa_cons (pe_tup (pa_cons pe_str (pa_cons (pe_ix ix_tup (pv 4) pe_int (fun _ _ => rfl)) pa_nil))) pa_nil))) (pa_cons (pe_tup (pa_cons (pv 3) (pa_cons (pe_tup (pa_cons (pe_ix ix_tup (pv 4) pe_int (fun _ _ => rfl)) (pa_cons (pe_lst pa_nil) pa_nil))) pa_nil))) (pa_cons (pe_tup (pa_cons pe_dnewK (pa_cons (pv 4) pa_nil))) (pa_cons pe_str pa_nil)))))))) (pss_cons (ps_set (i := 5) scCh.nd rfl (Or.inl rfl) (pe_op op_cat (pv 5) (pe_lst (pa_cons (pe_tup (pa_cons (pe_op op_catT (pv 3) (pe_tup (pa_cons pe_int pa_nil))) (pa_cons (pv 4) pa_nil))) (pa_cons (pe_tup (pa_cons (pv 3) (pa_cons (pe_tup (pa_cons (pe_ix ix_tup (pv 4) pe_int (fun _ _ => rfl)) (pa_cons (pe_ix ix_tup (pv 4) pe_int (fun _ _ => rfl)) pa_nil))) pa_nil))) (pa_cons (pe_lst (pa_cons (pv 3) (pa_cons (pv 4) pa_nil))) pa_nil)))))) (Evl.pss_cut (ps_if (pt_cmpR op_ne (pe_ix ix_tup (pv 2) pe_int (fun _ _ => rfl)) pe_str (nomark _)) (pss_one (ps_expr (pe_bm PySem.F.plainAttrs_list PySem.F.slot_list_append PySem.F.type_list_append mt_append (pv 5) (pa_cons (pe_tup (pa_cons (pv 3) (pa_cons (pe_tup (pa_cons (pe_op op_pow pe_int pe_int) (pa_cons (pe_op op_add (pe_op op_pow pe_int pe_int) pe_int) pa_nil))) pa_nil))) pa_nil)))) pss_nil) (pss_one (ps_ret (pe_call GO hr rfl mO kO bO .nil pass0 (pa_cons (pv 0) (pa_cons (pv 5) pa_nil))))))))))), ?_⟩
    refine ⟨_, rfl, q, _, rfl, SqT.of hq, rfl, _, _, rfl, _, _, rfl, rfl, ?_⟩
    have B0 : Bun a q q1 q2 t lo hi x y b tl H0 H0 := ⟨Same.refl H0, R, hq, hq1, hq2, ht, n1, n2⟩
    clear R hq hq1 hq2 ht
    refine ⟨_, rfl, q, _, rfl, .inr (SqT.of B0.eq), fun p0 hp0 => ?_⟩
    have s0 : Same H0 (upd H0 p0 (.lst [V.ref q1, .ref q2])) := same_new hp0
    have np0 : p0 ≠ a := (B0.R.new hp0).symm
    have e0 : (upd H0 p0 (.lst [V.ref q1, .ref q2])) p0 = some (.lst [V.ref q1, .ref q2]) := upd_same
    have B1 := B0.mono s0
    generalize (upd H0 p0 (.lst [V.ref q1, .ref q2])) = H1 at s0 e0 B1 ⊢
    clear hp0 s0 B0
    have d0 : Dx a H1 (.ref p0) _ := .lst np0 e0 (.cons B1.d1 (.cons B1.d2 .nil))
    have o0 : OneOk a n tl H1 (.ref p0) := ⟨_, d0, (fun _ _ _ _ h => by cases h)⟩
    refine ⟨_, rfl, (by show 1 ≤ sizeLine; decide), fun p1 hp1 => ?_⟩
    have s1 : Same H1 (upd H1 p1 (.tup [V.ref q1])) := same_new hp1
    have np1 : p1 ≠ a := (B1.R.new hp1).symm
    have e1 : (upd H1 p1 (.tup [V.ref q1])) p1 = some (.tup [V.ref q1]) := upd_same
    have B2 := B1.mono s1
    have o0 := o0.same s1
    generalize (upd H1 p1 (.tup [V.ref q1])) = H2 at s1 e1 B2 o0 ⊢
    clear hp1 s1 B1
    have d1 : Dx a H2 (.ref p1) _ := .tup np1 e1 (.cons B2.d1 .nil)
    have o1 : OneOk a n tl H2 (.ref p1) := ⟨_, d1, (fun _ _ _ _ h => by cases h)⟩
    refine ⟨_, rfl, _, rfl, _, rfl, (by show 3 ≤ sizeLine; decide), fun p2 hp2 => ?_⟩
    have s2 : Same H2 (upd H2 p2 (.tup [V.ref q1, .ref q2, .ref q1])) := same_new hp2
    have np2 : p2 ≠ a := (B2.R.new hp2).symm
    have e2 : (upd H2 p2 (.tup [V.ref q1, .ref q2, .ref q1])) p2 = some (.tup [V.ref q1, .ref q2, .ref q1]) := upd_same
    have B3 := B2.mono s2
    have o0 := o0.same s2
    have o1 := o1.same s2
    generalize (upd H2 p2 (.tup [V.ref q1, .ref q2, .ref q1])) = H3 at s2 e2 B3 o0 o1 ⊢
    clear hp2 s2 B2
    have d2 : Dx a H3 (.ref p2) _ := .tup np2 e2 (.cons B3.d1 (.cons B3.d2 (.cons B3.d1 .nil)))
    have o2 : OneOk a n tl H3 (.ref p2) := ⟨_, d2, (fun _ _ _ _ h => by cases h)⟩
    refine ⟨_, rfl, _, rfl, (by show 2 ≤ sizeLine; decide), fun p3 hp3 => ?_⟩
    have s3 : Same H3 (upd H3 p3 (.tup [V.ref q1, .ref q1])) := same_new hp3
    have np3 : p3 ≠ a := (B3.R.new hp3).symm
    have e3 : (upd H3 p3 (.tup [V.ref q1, .ref q1])) p3 = some (.tup [V.ref q1, .ref q1]) := upd_same
    have B4 := B3.mono s3
    have o0 := o0.same s3
    have o1 := o1.same s3
    have o2 := o2.same s3
    generalize (upd H3 p3 (.tup [V.ref q1, .ref q1])) = H4 at s3 e3 B4 o0 o1 o2 ⊢
    clear hp3 s3 B3
    have d3 : Dx a H4 (.ref p3) _ := .tup np3 e3 (.cons B4.d1 (.cons B4.d1 .nil))
    have o3 : OneOk a n tl H4 (.ref p3) := ⟨_, d3, (tame_two (te_nat hlo) (te_nat hhi) (te_nat hlo) (te_nat hhi))⟩
    refine ⟨_, rfl, q1, _, _, rfl, SqT.of B4.e1, fun p4 hp4 => ?_⟩
    have s4 : Same H4 (upd H4 p4 (.tup [V.int (hi : Int), .int (lo : Int)])) := same_new hp4
    have np4 : p4 ≠ a := (B4.R.new hp4).symm
    have e4 : (upd H4 p4 (.tup [V.int (hi : Int), .int (lo : Int)])) p4 = some (.tup [V.int (hi : Int), .int (lo : Int)]) := upd_same
    have B5 := B4.mono s4
    have o0 := o0.same s4
    have o1 := o1.same s4
    have o2 := o2.same s4
    have o3 := o3.same s4
    generalize (upd H4 p4 (.tup [V.int (hi : Int), .int (lo : Int)])) = H5 at s4 e4 B5 o0 o1 o2 o3 ⊢
    clear hp4 s4 B4
    have d4 : Dx a H5 (.ref p4) _ := .tup np4 e4 (.cons (.int _) (.cons (.int _) .nil))
    refine ⟨_, rfl, (by show 2 ≤ sizeLine; decide), fun p5 hp5 => ?_⟩
    have s5 : Same H5 (upd H5 p5 (.tup [V.ref p4, .ref q2])) := same_new hp5
    have np5 : p5 ≠ a := (B5.R.new hp5).symm
    have e5 : (upd H5 p5 (.tup [V.ref p4, .ref q2])) p5 = some (.tup [V.ref p4, .ref q2]) := upd_same
    have B6 := B5.mono s5
    have o0 := o0.same s5
    have o1 := o1.same s5
    have o2 := o2.same s5
    have o3 := o3.same s5
    have d4 := d4.same' s5
    generalize (upd H5 p5 (.tup [V.ref p4, .ref q2])) = H6 at s5 e5 B6 o0 o1 o2 o3 d4 ⊢
    clear hp5 s5 B5
    have d5 : Dx a H6 (.ref p5) _ := .tup np5 e5 (.cons d4 (.cons B6.d2 .nil))
    have o5 : OneOk a n tl H6 (.ref p5) := ⟨_, d5, (tame_two (te_nat hhi) (te_nat hlo) (te_nat hx) (te_nat hy))⟩
    refine ⟨_, rfl, q1, _, rfl, .inr (SqT.of B6.e1), fun p6 hp6 => ?_⟩
    have s6 : Same H6 (upd H6 p6 (.lst [V.int (lo : Int), .int (hi : Int)])) := same_new hp6
    have np6 : p6 ≠ a := (B6.R.new hp6).symm
    have e6 : (upd H6 p6 (.lst [V.int (lo : Int), .int (hi : Int)])) p6 = some (.lst [V.int (lo : Int), .int (hi : Int)]) := upd_same
    have B7 := B6.mono s6
    have o0 := o0.same s6
    have o1 := o1.same s6
    have o2 := o2.same s6
    have o3 := o3.same s6
    have o5 := o5.same s6
    generalize (upd H6 p6 (.lst [V.int (lo : Int), .int (hi : Int)])) = H7 at s6 e6 B7 o0 o1 o2 o3 o5 ⊢
    clear hp6 s6 B6
    have d6 : Dx a H7 (.ref p6) _ := .lst np6 e6 (.cons (.int _) (.cons (.int _) .nil))
    refine ⟨_, rfl, (by show 2 ≤ sizeLine; decide), fun p7 hp7 => ?_⟩
    have s7 : Same H7 (upd H7 p7 (.tup [V.ref p6, .ref q2])) := same_new hp7
    have np7 : p7 ≠ a := (B7.R.new hp7).symm
    have e7 : (upd H7 p7 (.tup [V.ref p6, .ref q2])) p7 = some (.tup [V.ref p6, .ref q2]) := upd_same
    have B8 := B7.mono s7
    have o0 := o0.same s7
    have o1 := o1.same s7
    have o2 := o2.same s7
    have o3 := o3.same s7
    have o5 := o5.same s7
    have d6 := d6.same' s7
    generalize (upd H7 p7 (.tup [V.ref p6, .ref q2])) = H8 at s7 e7 B8 o0 o1 o2 o3 o5 d6 ⊢
    clear hp7 s7 B7
    have d7 : Dx a H8 (.ref p7) _ := .tup np7 e7 (.cons d6 (.cons B8.d2 .nil))
    have o7 : OneOk a n tl H8 (.ref p7) := ⟨_, d7, (fun _ _ _ _ h => by cases h)⟩
    refine ⟨(by show 8 ≤ sizeLine; decide), fun p8 hp8 => ?_⟩
    have s8 : Same H8 (upd H8 p8 (.lst [V.ref p0, V.ref p1, V.ref p2, V.ref p3, V.ref p5, V.ref p7, V.non, V.int 5])) := same_new hp8
    have nL0 : p8 ≠ a := (B8.R.new hp8).symm
    have eL0 : (upd H8 p8 (.lst [V.ref p0, V.ref p1, V.ref p2, V.ref p3, V.ref p5, V.ref p7, V.non, V.int 5])) p8 = some (.lst [V.ref p0, V.ref p1, V.ref p2, V.ref p3, V.ref p5, V.ref p7, V.non, V.int 5]) := upd_same
    have B9 := B8.mono s8
    have OL0 : OptsOk a n tl (upd H8 p8 (.lst [V.ref p0, V.ref p1, V.ref p2, V.ref p3, V.ref p5, V.ref p7, V.non, V.int 5])) [V.ref p0, V.ref p1, V.ref p2, V.ref p3, V.ref p5, V.ref p7, V.non, V.int 5] := OptsOk.same s8 ((OptsOk.cons o0 (OptsOk.cons o1 (OptsOk.cons o2 (OptsOk.cons o3 (OptsOk.cons o5 (OptsOk.cons o7 (OptsOk.cons ⟨_, .non, (fun _ _ _ _ h => by cases h)⟩ (OptsOk.cons ⟨_, .int _, (fun _ _ _ _ h => by cases h)⟩ OptsOk.nil)))))))))
    generalize (upd H8 p8 (.lst [V.ref p0, V.ref p1, V.ref p2, V.ref p3, V.ref p5, V.ref p7, V.non, V.int 5])) = H9 at s8 eL0 B9 OL0 ⊢
    clear hp8 s8 B8 o0 o1 o2 o3 o5 o7
    generalize hx0 : ([V.ref p0, V.ref p1, V.ref p2, V.ref p3, V.ref p5, V.ref p7, V.non, V.int 5] : List V) = xs0 at eL0 OL0 ⊢
    have hlen0 : xs0.length = 8 := by rw [← hx0]; rfl
    clear hx0
    refine ⟨_, rfl, ?_⟩
    refine ⟨_, rfl, _, rfl, q2, _, _, _, rfl, rfl, SqT.of B9.e2, atI_nat (j := 0) rfl, (by show 2 ≤ sizeLine; decide), fun p9 hp9 => ?_⟩
    have s9 : Same H9 (upd H9 p9 (.tup [V.int (x : Int), .bl true])) := same_new hp9
    have np9 : p9 ≠ a := (B9.R.new hp9).symm
    have e9 : (upd H9 p9 (.tup [V.int (x : Int), .bl true])) p9 = some (.tup [V.int (x : Int), .bl true]) := upd_same
    have B10 := B9.mono s9
    have eL0 := s9 _ _ eL0
    have OL0 := OptsOk.same s9 OL0
    generalize (upd H9 p9 (.tup [V.int (x : Int), .bl true])) = H10 at s9 e9 B10 eL0 OL0 ⊢
    clear hp9 s9 B9
    have d9 : Dx a H10 (.ref p9) _ := .tup np9 e9 (.cons (.int _) (.cons (.bl _) .nil))
    refine ⟨(by show 2 ≤ sizeLine; decide), fun p10 hp10 => ?_⟩
    have s10 : Same H10 (upd H10 p10 (.tup [V.ref q1, .ref p9])) := same_new hp10
    have np10 : p10 ≠ a := (B10.R.new hp10).symm
    have e10 : (upd H10 p10 (.tup [V.ref q1, .ref p9])) p10 = some (.tup [V.ref q1, .ref p9]) := upd_same
    have B11 := B10.mono s10
    have d9 := d9.same' s10
    have eL0 := s10 _ _ eL0
    have OL0 := OptsOk.same s10 OL0
    generalize (upd H10 p10 (.tup [V.ref q1, .ref p9])) = H11 at s10 e10 B11 d9 eL0 OL0 ⊢
    clear hp10 s10 B10
    have d10 : Dx a H11 (.ref p10) _ := .tup np10 e10 (.cons B11.d1 (.cons d9 .nil))
    have o10 : OneOk a n tl H11 (.ref p10) := ⟨_, d10, (tame_two (te_nat hlo) (te_nat hhi) (te_nat hx) (te_odd (fun _ h => by cases h)))⟩
    refine ⟨_, rfl, _, rfl, q2, _, _, _, rfl, rfl, SqT.of B11.e2, atI_nat (j := 1) rfl, (by show 2 ≤ sizeLine; decide), fun p11 hp11 => ?_⟩
    have s11 : Same H11 (upd H11 p11 (.tup [V.bl false, .int (y : Int)])) := same_new hp11
    have np11 : p11 ≠ a := (B11.R.new hp11).symm
    have e11 : (upd H11 p11 (.tup [V.bl false, .int (y : Int)])) p11 = some (.tup [V.bl false, .int (y : Int)]) := upd_same
    have B12 := B11.mono s11
    have o10 := o10.same s11
    have eL0 := s11 _ _ eL0
    have OL0 := OptsOk.same s11 OL0
    generalize (upd H11 p11 (.tup [V.bl false, .int (y : Int)])) = H12 at s11 e11 B12 o10 eL0 OL0 ⊢
    clear hp11 s11 B11
    have d11 : Dx a H12 (.ref p11) _ := .tup np11 e11 (.cons (.bl _) (.cons (.int _) .nil))
    refine ⟨(by show 2 ≤ sizeLine; decide), fun p12 hp12 => ?_⟩
    have s12 : Same H12 (upd H12 p12 (.tup [V.ref q1, .ref p11])) := same_new hp12
    have np12 : p12 ≠ a := (B12.R.new hp12).symm
    have e12 : (upd H12 p12 (.tup [V.ref q1, .ref p11])) p12 = some (.tup [V.ref q1, .ref p11]) := upd_same
    have B13 := B12.mono s12
    have o10 := o10.same s12
    have d11 := d11.same' s12
    have eL0 := s12 _ _ eL0
    have OL0 := OptsOk.same s12 OL0
    generalize (upd H12 p12 (.tup [V.ref q1, .ref p11])) = H13 at s12 e12 B13 o10 d11 eL0 OL0 ⊢
    clear hp12 s12 B12
    have d12 : Dx a H13 (.ref p12) _ := .tup np12 e12 (.cons B13.d1 (.cons d11 .nil))
    have o12 : OneOk a n tl H13 (.ref p12) := ⟨_, d12, (tame_two (te_nat hlo) (te_nat hhi) (te_odd (fun _ h => by cases h)) (te_nat hy))⟩
    refine ⟨_, rfl, _, rfl, q1, _, _, _, rfl, rfl, SqT.of B13.e1, atI_nat (j := 1) rfl, (by show 2 ≤ sizeLine; decide), fun p13 hp13 => ?_⟩
    have s13 : Same H13 (upd H13 p13 (.tup [V.int (-1), .int (hi : Int)])) := same_new hp13
    have np13 : p13 ≠ a := (B13.R.new hp13).symm
    have e13 : (upd H13 p13 (.tup [V.int (-1), .int (hi : Int)])) p13 = some (.tup [V.int (-1), .int (hi : Int)]) := upd_same
    have B14 := B13.mono s13
    have o10 := o10.same s13
    have o12 := o12.same s13
    have eL0 := s13 _ _ eL0
    have OL0 := OptsOk.same s13 OL0
    generalize (upd H13 p13 (.tup [V.int (-1), .int (hi : Int)])) = H14 at s13 e13 B14 o10 o12 eL0 OL0 ⊢
    clear hp13 s13 B13
    have d13 : Dx a H14 (.ref p13) _ := .tup np13 e13 (.cons (.int _) (.cons (.int _) .nil))
    refine ⟨_, rfl, (by show 2 ≤ sizeLine; decide), fun p14 hp14 => ?_⟩
    have s14 : Same H14 (upd H14 p14 (.tup [V.ref p13, .ref q2])) := same_new hp14
    have np14 : p14 ≠ a := (B14.R.new hp14).symm
    have e14 : (upd H14 p14 (.tup [V.ref p13, .ref q2])) p14 = some (.tup [V.ref p13, .ref q2]) := upd_same
    have B15 := B14.mono s14
    have o10 := o10.same s14
    have o12 := o12.same s14
    have d13 := d13.same' s14
    have eL0 := s14 _ _ eL0
    have OL0 := OptsOk.same s14 OL0
    generalize (upd H14 p14 (.tup [V.ref p13, .ref q2])) = H15 at s14 e14 B15 o10 o12 d13 eL0 OL0 ⊢
    clear hp14 s14 B14
    have d14 : Dx a H15 (.ref p14) _ := .tup np14 e14 (.cons d13 (.cons B15.d2 .nil))
    have o14 : OneOk a n tl H15 (.ref p14) := ⟨_, d14, (tame_two (te_neg hlo) (te_nat hhi) (te_nat hx) (te_nat hy))⟩
    refine ⟨_, rfl, _, rfl, _, rfl, q2, _, rfl, SqT.of B15.e2, (by show ¬ (HT.sIx 2 0 none = 0 ∧ HT.sIx 2 2 (some 1) = 2); decide), fun p15 hp15 => ?_⟩
    have s15 : Same H15 (upd H15 p15 (.tup (cutV [V.int (x : Int), .int (y : Int)] none (some 1)))) := same_new hp15
    have np15 : p15 ≠ a := (B15.R.new hp15).symm
    have e15 : (upd H15 p15 (.tup (cutV [V.int (x : Int), .int (y : Int)] none (some 1)))) p15 = some (.tup (cutV [V.int (x : Int), .int (y : Int)] none (some 1))) := upd_same
    have B16 := B15.mono s15
    have o10 := o10.same s15
    have o12 := o12.same s15
    have o14 := o14.same s15
    have eL0 := s15 _ _ eL0
    have OL0 := OptsOk.same s15 OL0
    generalize (upd H15 p15 (.tup (cutV [V.int (x : Int), .int (y : Int)] none (some 1)))) = H16 at s15 e15 B16 o10 o12 o14 eL0 OL0 ⊢
    clear hp15 s15 B15
    have d15 : Dx a H16 (.ref p15) _ := .tup np15 (ds := [.int (x : Int)]) e15 (.cons (.int _) .nil)
    refine ⟨(by show 2 ≤ sizeLine; decide), fun p16 hp16 => ?_⟩
    have s16 : Same H16 (upd H16 p16 (.tup [V.ref q1, .ref p15])) := same_new hp16
    have np16 : p16 ≠ a := (B16.R.new hp16).symm
    have e16 : (upd H16 p16 (.tup [V.ref q1, .ref p15])) p16 = some (.tup [V.ref q1, .ref p15]) := upd_same
    have B17 := B16.mono s16
    have o10 := o10.same s16
    have o12 := o12.same s16
    have o14 := o14.same s16
    have d15 := d15.same' s16
    have eL0 := s16 _ _ eL0
    have OL0 := OptsOk.same s16 OL0
    generalize (upd H16 p16 (.tup [V.ref q1, .ref p15])) = H17 at s16 e16 B17 o10 o12 o14 d15 eL0 OL0 ⊢
    clear hp16 s16 B16
    have d16 : Dx a H17 (.ref p16) _ := .tup np16 e16 (.cons B17.d1 (.cons d15 .nil))
    have o16 : OneOk a n tl H17 (.ref p16) := ⟨_, d16, (fun _ _ _ _ h => by cases h)⟩
    refine ⟨(by show 4 ≤ sizeLine; decide), fun p17 hp17 => ?_⟩
    have s17 : Same H17 (upd H17 p17 (.lst [V.ref p10, V.ref p12, V.ref p14, V.ref p16])) := same_new hp17
    have nM1 : p17 ≠ a := (B17.R.new hp17).symm
    have eM1 : (upd H17 p17 (.lst [V.ref p10, V.ref p12, V.ref p14, V.ref p16])) p17 = some (.lst [V.ref p10, V.ref p12, V.ref p14, V.ref p16]) := upd_same
    have B18 := B17.mono s17
    have OM1 : OptsOk a n tl (upd H17 p17 (.lst [V.ref p10, V.ref p12, V.ref p14, V.ref p16])) [V.ref p10, V.ref p12, V.ref p14, V.ref p16] := OptsOk.same s17 ((OptsOk.cons o10 (OptsOk.cons o12 (OptsOk.cons o14 (OptsOk.cons o16 OptsOk.nil)))))
    have eL0 := s17 _ _ eL0
    have OL0 := OptsOk.same s17 OL0
    generalize (upd H17 p17 (.lst [V.ref p10, V.ref p12, V.ref p14, V.ref p16])) = H18 at s17 eM1 B18 OM1 eL0 OL0 ⊢
    clear hp17 s17 B17 o10 o12 o14 o16
    have hz1 : xs0.length + 4 ≤ sizeLine := by rw [hlen0]; exact Nat.le_of_lt (small1000 (by omega))
    refine ⟨p8, p17, _, _, rfl, rfl, eL0, eM1, hz1, fun p18 hp18 => ?_⟩
    have s18 : Same H18 (upd H18 p18 (.lst (xs0 ++ [V.ref p10, V.ref p12, V.ref p14, V.ref p16]))) := same_new hp18
    have nL1 : p18 ≠ a := (B18.R.new hp18).symm
    have eL1 : (upd H18 p18 (.lst (xs0 ++ [V.ref p10, V.ref p12, V.ref p14, V.ref p16]))) p18 = some (.lst (xs0 ++ [V.ref p10, V.ref p12, V.ref p14, V.ref p16])) := upd_same
    have B19 := B18.mono s18
    have OL1 : OptsOk a n tl (upd H18 p18 (.lst (xs0 ++ [V.ref p10, V.ref p12, V.ref p14, V.ref p16]))) (xs0 ++ [V.ref p10, V.ref p12, V.ref p14, V.ref p16]) := OptsOk.same s18 (OptsOk.append OL0 OM1)
    generalize (upd H18 p18 (.lst (xs0 ++ [V.ref p10, V.ref p12, V.ref p14, V.ref p16]))) = H19 at s18 eL1 B19 OL1 ⊢
    clear hp18 s18 B18 
    generalize hx1 : (xs0 ++ [V.ref p10, V.ref p12, V.ref p14, V.ref p16] : List V) = xs1 at eL1 OL1 ⊢
    have hlen1 : xs1.length = 12 := by rw [← hx1, List.length_append, hlen0]; rfl
    clear hx1 eL0 OL0 eM1 OM1
    refine ⟨_, rfl, ?_⟩
    refine ⟨_, rfl, _, rfl, q2, _, _, _, rfl, rfl, SqT.of B19.e2, atI_nat (j := 0) rfl, (by show 2 ≤ sizeLine; decide), fun p19 hp19 => ?_⟩
    have s19 : Same H19 (upd H19 p19 (.tup [V.int (x : Int), .non])) := same_new hp19
    have np19 : p19 ≠ a := (B19.R.new hp19).symm
    have e19 : (upd H19 p19 (.tup [V.int (x : Int), .non])) p19 = some (.tup [V.int (x : Int), .non]) := upd_same
    have B20 := B19.mono s19
    have eL1 := s19 _ _ eL1
    have OL1 := OptsOk.same s19 OL1
    generalize (upd H19 p19 (.tup [V.int (x : Int), .non])) = H20 at s19 e19 B20 eL1 OL1 ⊢
    clear hp19 s19 B19
    have d19 : Dx a H20 (.ref p19) _ := .tup np19 e19 (.cons (.int _) (.cons .non .nil))
    refine ⟨(by show 2 ≤ sizeLine; decide), fun p20 hp20 => ?_⟩
    have s20 : Same H20 (upd H20 p20 (.tup [V.ref q1, .ref p19])) := same_new hp20
    have np20 : p20 ≠ a := (B20.R.new hp20).symm
    have e20 : (upd H20 p20 (.tup [V.ref q1, .ref p19])) p20 = some (.tup [V.ref q1, .ref p19]) := upd_same
    have B21 := B20.mono s20
    have d19 := d19.same' s20
    have eL1 := s20 _ _ eL1
    have OL1 := OptsOk.same s20 OL1
    generalize (upd H20 p20 (.tup [V.ref q1, .ref p19])) = H21 at s20 e20 B21 d19 eL1 OL1 ⊢
    clear hp20 s20 B20
    have d20 : Dx a H21 (.ref p20) _ := .tup np20 e20 (.cons B21.d1 (.cons d19 .nil))
    have o20 : OneOk a n tl H21 (.ref p20) := ⟨_, d20, (tame_two (te_nat hlo) (te_nat hhi) (te_nat hx) (te_odd (fun _ h => by cases h)))⟩
    refine ⟨_, rfl, _, rfl, q2, _, _, _, rfl, rfl, SqT.of B21.e2, atI_nat (j := 1) rfl, (by show 2 ≤ sizeLine; decide), fun p21 hp21 => ?_⟩
    have s21 : Same H21 (upd H21 p21 (.tup [V.str "0", .int (y : Int)])) := same_new hp21
    have np21 : p21 ≠ a := (B21.R.new hp21).symm
    have e21 : (upd H21 p21 (.tup [V.str "0", .int (y : Int)])) p21 = some (.tup [V.str "0", .int (y : Int)]) := upd_same
    have B22 := B21.mono s21
    have o20 := o20.same s21
    have eL1 := s21 _ _ eL1
    have OL1 := OptsOk.same s21 OL1
    generalize (upd H21 p21 (.tup [V.str "0", .int (y : Int)])) = H22 at s21 e21 B22 o20 eL1 OL1 ⊢
    clear hp21 s21 B21
    have d21 : Dx a H22 (.ref p21) _ := .tup np21 e21 (.cons (.str _) (.cons (.int _) .nil))
    refine ⟨(by show 2 ≤ sizeLine; decide), fun p22 hp22 => ?_⟩
    have s22 : Same H22 (upd H22 p22 (.tup [V.ref q1, .ref p21])) := same_new hp22
    have np22 : p22 ≠ a := (B22.R.new hp22).symm
    have e22 : (upd H22 p22 (.tup [V.ref q1, .ref p21])) p22 = some (.tup [V.ref q1, .ref p21]) := upd_same
    have B23 := B22.mono s22
    have o20 := o20.same s22
    have d21 := d21.same' s22
    have eL1 := s22 _ _ eL1
    have OL1 := OptsOk.same s22 OL1
    generalize (upd H22 p22 (.tup [V.ref q1, .ref p21])) = H23 at s22 e22 B23 o20 d21 eL1 OL1 ⊢
    clear hp22 s22 B22
    have d22 : Dx a H23 (.ref p22) _ := .tup np22 e22 (.cons B23.d1 (.cons d21 .nil))
    have o22 : OneOk a n tl H23 (.ref p22) := ⟨_, d22, (tame_two (te_nat hlo) (te_nat hhi) (te_odd (fun _ h => by cases h)) (te_nat hy))⟩
    refine ⟨_, rfl, _, rfl, q2, _, _, _, rfl, rfl, SqT.of B23.e2, atI_nat (j := 0) rfl, (by show 0 ≤ sizeLine; decide), fun p23 hp23 => ?_⟩
    have s23 : Same H23 (upd H23 p23 (.lst [])) := same_new hp23
    have np23 : p23 ≠ a := (B23.R.new hp23).symm
    have e23 : (upd H23 p23 (.lst [])) p23 = some (.lst []) := upd_same
    have B24 := B23.mono s23
    have o20 := o20.same s23
    have o22 := o22.same s23
    have eL1 := s23 _ _ eL1
    have OL1 := OptsOk.same s23 OL1
    generalize (upd H23 p23 (.lst [])) = H24 at s23 e23 B24 o20 o22 eL1 OL1 ⊢
    clear hp23 s23 B23
    have d23 : Dx a H24 (.ref p23) _ := .lst np23 e23 .nil
    refine ⟨(by show 2 ≤ sizeLine; decide), fun p24 hp24 => ?_⟩
    have s24 : Same H24 (upd H24 p24 (.tup [V.int (x : Int), .ref p23])) := same_new hp24
    have np24 : p24 ≠ a := (B24.R.new hp24).symm
    have e24 : (upd H24 p24 (.tup [V.int (x : Int), .ref p23])) p24 = some (.tup [V.int (x : Int), .ref p23]) := upd_same
    have B25 := B24.mono s24
    have o20 := o20.same s24
    have o22 := o22.same s24
    have d23 := d23.same' s24
    have eL1 := s24 _ _ eL1
    have OL1 := OptsOk.same s24 OL1
    generalize (upd H24 p24 (.tup [V.int (x : Int), .ref p23])) = H25 at s24 e24 B25 o20 o22 d23 eL1 OL1 ⊢
    clear hp24 s24 B24
    have d24 : Dx a H25 (.ref p24) _ := .tup np24 e24 (.cons (.int _) (.cons d23 .nil))
    refine ⟨(by show 2 ≤ sizeLine; decide), fun p25 hp25 => ?_⟩
    have s25 : Same H25 (upd H25 p25 (.tup [V.ref q1, .ref p24])) := same_new hp25
    have np25 : p25 ≠ a := (B25.R.new hp25).symm
    have e25 : (upd H25 p25 (.tup [V.ref q1, .ref p24])) p25 = some (.tup [V.ref q1, .ref p24]) := upd_same
    have B26 := B25.mono s25
    have o20 := o20.same s25
    have o22 := o22.same s25
    have d24 := d24.same' s25
    have eL1 := s25 _ _ eL1
    have OL1 := OptsOk.same s25 OL1
    generalize (upd H25 p25 (.tup [V.ref q1, .ref p24])) = H26 at s25 e25 B26 o20 o22 d24 eL1 OL1 ⊢
    clear hp25 s25 B25
    have d25 : Dx a H26 (.ref p25) _ := .tup np25 e25 (.cons B26.d1 (.cons d24 .nil))
    have o25 : OneOk a n tl H26 (.ref p25) := ⟨_, d25, (tame_two (te_nat hlo) (te_nat hhi) (te_nat hx) (te_odd (fun _ h => by cases h)))⟩
    refine fun p26 hp26 => ?_
    have s26 : Same H26 (upd H26 p26 (.dK [])) := same_new hp26
    have np26 : p26 ≠ a := (B26.R.new hp26).symm
    have e26 : (upd H26 p26 (.dK [])) p26 = some (.dK []) := upd_same
    have B27 := B26.mono s26
    have o20 := o20.same s26
    have o22 := o22.same s26
    have o25 := o25.same s26
    have eL1 := s26 _ _ eL1
    have OL1 := OptsOk.same s26 OL1
    generalize (upd H26 p26 (.dK [])) = H27 at s26 e26 B27 o20 o22 o25 eL1 OL1 ⊢
    clear hp26 s26 B26
    have d26 : Dx a H27 (.ref p26) _ := .dct np26 e26
    refine ⟨_, rfl, (by show 2 ≤ sizeLine; decide), fun p27 hp27 => ?_⟩
    have s27 : Same H27 (upd H27 p27 (.tup [V.ref p26, .ref q2])) := same_new hp27
    have np27 : p27 ≠ a := (B27.R.new hp27).symm
    have e27 : (upd H27 p27 (.tup [V.ref p26, .ref q2])) p27 = some (.tup [V.ref p26, .ref q2]) := upd_same
    have B28 := B27.mono s27
    have o20 := o20.same s27
    have o22 := o22.same s27
    have o25 := o25.same s27
    have d26 := d26.same' s27
    have eL1 := s27 _ _ eL1
    have OL1 := OptsOk.same s27 OL1
    generalize (upd H27 p27 (.tup [V.ref p26, .ref q2])) = H28 at s27 e27 B28 o20 o22 o25 d26 eL1 OL1 ⊢
    clear hp27 s27 B27
    have d27 : Dx a H28 (.ref p27) _ := .tup np27 e27 (.cons d26 (.cons B28.d2 .nil))
    have o27 : OneOk a n tl H28 (.ref p27) := ⟨_, d27, (fun _ _ _ _ h => by cases h)⟩
    refine ⟨(by show 5 ≤ sizeLine; decide), fun p28 hp28 => ?_⟩
    have s28 : Same H28 (upd H28 p28 (.lst [V.ref p20, V.ref p22, V.ref p25, V.ref p27, V.str "01"])) := same_new hp28
    have nM2 : p28 ≠ a := (B28.R.new hp28).symm
    have eM2 : (upd H28 p28 (.lst [V.ref p20, V.ref p22, V.ref p25, V.ref p27, V.str "01"])) p28 = some (.lst [V.ref p20, V.ref p22, V.ref p25, V.ref p27, V.str "01"]) := upd_same
    have B29 := B28.mono s28
    have OM2 : OptsOk a n tl (upd H28 p28 (.lst [V.ref p20, V.ref p22, V.ref p25, V.ref p27, V.str "01"])) [V.ref p20, V.ref p22, V.ref p25, V.ref p27, V.str "01"] := OptsOk.same s28 ((OptsOk.cons o20 (OptsOk.cons o22 (OptsOk.cons o25 (OptsOk.cons o27 (OptsOk.cons ⟨_, .str _, (fun _ _ _ _ h => by cases h)⟩ OptsOk.nil))))))
    have eL1 := s28 _ _ eL1
    have OL1 := OptsOk.same s28 OL1
    generalize (upd H28 p28 (.lst [V.ref p20, V.ref p22, V.ref p25, V.ref p27, V.str "01"])) = H29 at s28 eM2 B29 OM2 eL1 OL1 ⊢
    clear hp28 s28 B28 o20 o22 o25 o27
    have hz2 : xs1.length + 5 ≤ sizeLine := by rw [hlen1]; exact Nat.le_of_lt (small1000 (by omega))
    refine ⟨p18, p28, _, _, rfl, rfl, eL1, eM2, hz2, fun p29 hp29 => ?_⟩
    have s29 : Same H29 (upd H29 p29 (.lst (xs1 ++ [V.ref p20, V.ref p22, V.ref p25, V.ref p27, V.str "01"]))) := same_new hp29
    have nL2 : p29 ≠ a := (B29.R.new hp29).symm
    have eL2 : (upd H29 p29 (.lst (xs1 ++ [V.ref p20, V.ref p22, V.ref p25, V.ref p27, V.str "01"]))) p29 = some (.lst (xs1 ++ [V.ref p20, V.ref p22, V.ref p25, V.ref p27, V.str "01"])) := upd_same
    have B30 := B29.mono s29
    have OL2 : OptsOk a n tl (upd H29 p29 (.lst (xs1 ++ [V.ref p20, V.ref p22, V.ref p25, V.ref p27, V.str "01"]))) (xs1 ++ [V.ref p20, V.ref p22, V.ref p25, V.ref p27, V.str "01"]) := OptsOk.same s29 (OptsOk.append OL1 OM2)
    generalize (upd H29 p29 (.lst (xs1 ++ [V.ref p20, V.ref p22, V.ref p25, V.ref p27, V.str "01"]))) = H30 at s29 eL2 B30 OL2 ⊢
    clear hp29 s29 B29 
    generalize hx2 : (xs1 ++ [V.ref p20, V.ref p22, V.ref p25, V.ref p27, V.str "01"] : List V) = xs2 at eL2 OL2 ⊢
    have hlen2 : xs2.length = 17 := by rw [← hx2, List.length_append, hlen1]; rfl
    clear hx2 eL1 OL1 eM2 OM2
    refine ⟨_, rfl, ?_⟩
    refine ⟨_, rfl, (by show 1 ≤ sizeLine; decide), fun p30 hp30 => ?_⟩
    have s30 : Same H30 (upd H30 p30 (.tup [V.int 0])) := same_new hp30
    have np30 : p30 ≠ a := (B30.R.new hp30).symm
    have e30 : (upd H30 p30 (.tup [V.int 0])) p30 = some (.tup [V.int 0]) := upd_same
    have B31 := B30.mono s30
    have eL2 := s30 _ _ eL2
    have OL2 := OptsOk.same s30 OL2
    generalize (upd H30 p30 (.tup [V.int 0])) = H31 at s30 e30 B31 eL2 OL2 ⊢
    clear hp30 s30 B30
    have d30 : Dx a H31 (.ref p30) _ := .tup np30 e30 (.cons (.int _) .nil)
    have er0 := e30
    refine ⟨_, _, _, _, rfl, rfl, SqT.of B31.e1, SqT.of er0, (fun e => by cases e), (by show 3 ≤ sizeLine; decide), (fun e => by cases e), fun _ => fun p31 hp31 => ?_⟩
    have s31 : Same H31 (upd H31 p31 (.tup ([V.int (lo : Int), .int (hi : Int)] ++ [V.int 0]))) := same_new hp31
    have np31 : p31 ≠ a := (B31.R.new hp31).symm
    have e31 : (upd H31 p31 (.tup ([V.int (lo : Int), .int (hi : Int)] ++ [V.int 0]))) p31 = some (.tup ([V.int (lo : Int), .int (hi : Int)] ++ [V.int 0])) := upd_same
    have B32 := B31.mono s31
    have d30 := d30.same' s31
    have eL2 := s31 _ _ eL2
    have OL2 := OptsOk.same s31 OL2
    generalize (upd H31 p31 (.tup ([V.int (lo : Int), .int (hi : Int)] ++ [V.int 0]))) = H32 at s31 e31 B32 d30 eL2 OL2 ⊢
    clear hp31 s31 B31
    have d31 : Dx a H32 (.ref p31) _ := .tup np31 (ds := [.int (lo : Int), .int (hi : Int), .int 0]) e31 (.cons (.int _) (.cons (.int _) (.cons (.int _) .nil)))
    refine ⟨_, rfl, (by show 2 ≤ sizeLine; decide), fun p32 hp32 => ?_⟩
    have s32 : Same H32 (upd H32 p32 (.tup [V.ref p31, .ref q2])) := same_new hp32
    have np32 : p32 ≠ a := (B32.R.new hp32).symm
    have e32 : (upd H32 p32 (.tup [V.ref p31, .ref q2])) p32 = some (.tup [V.ref p31, .ref q2]) := upd_same
    have B33 := B32.mono s32
    have d31 := d31.same' s32
    have eL2 := s32 _ _ eL2
    have OL2 := OptsOk.same s32 OL2
    generalize (upd H32 p32 (.tup [V.ref p31, .ref q2])) = H33 at s32 e32 B33 d31 eL2 OL2 ⊢
    clear hp32 s32 B32
    have d32 : Dx a H33 (.ref p32) _ := .tup np32 e32 (.cons d31 (.cons B33.d2 .nil))
    have o32 : OneOk a n tl H33 (.ref p32) := ⟨_, d32, (fun _ _ _ _ h => by cases h)⟩
    refine ⟨_, rfl, _, rfl, q2, _, _, _, rfl, rfl, SqT.of B33.e2, atI_nat (j := 0) rfl, _, rfl, q2, _, _, _, rfl, rfl, SqT.of B33.e2, atI_nat (j := 0) rfl, (by show 2 ≤ sizeLine; decide), fun p33 hp33 => ?_⟩
    have s33 : Same H33 (upd H33 p33 (.tup [V.int (x : Int), .int (x : Int)])) := same_new hp33
    have np33 : p33 ≠ a := (B33.R.new hp33).symm
    have e33 : (upd H33 p33 (.tup [V.int (x : Int), .int (x : Int)])) p33 = some (.tup [V.int (x : Int), .int (x : Int)]) := upd_same
    have B34 := B33.mono s33
    have o32 := o32.same s33
    have eL2 := s33 _ _ eL2
    have OL2 := OptsOk.same s33 OL2
    generalize (upd H33 p33 (.tup [V.int (x : Int), .int (x : Int)])) = H34 at s33 e33 B34 o32 eL2 OL2 ⊢
    clear hp33 s33 B33
    have d33 : Dx a H34 (.ref p33) _ := .tup np33 e33 (.cons (.int _) (.cons (.int _) .nil))
    refine ⟨(by show 2 ≤ sizeLine; decide), fun p34 hp34 => ?_⟩
    have s34 : Same H34 (upd H34 p34 (.tup [V.ref q1, .ref p33])) := same_new hp34
    have np34 : p34 ≠ a := (B34.R.new hp34).symm
    have e34 : (upd H34 p34 (.tup [V.ref q1, .ref p33])) p34 = some (.tup [V.ref q1, .ref p33]) := upd_same
    have B35 := B34.mono s34
    have o32 := o32.same s34
    have d33 := d33.same' s34
    have eL2 := s34 _ _ eL2
    have OL2 := OptsOk.same s34 OL2
    generalize (upd H34 p34 (.tup [V.ref q1, .ref p33])) = H35 at s34 e34 B35 o32 d33 eL2 OL2 ⊢
    clear hp34 s34 B34
    have d34 : Dx a H35 (.ref p34) _ := .tup np34 e34 (.cons B35.d1 (.cons d33 .nil))
    have o34 : OneOk a n tl H35 (.ref p34) := ⟨_, d34, (tame_two (te_nat hlo) (te_nat hhi) (te_nat hx) (te_nat hx))⟩
    refine ⟨_, rfl, _, rfl, (by show 2 ≤ sizeLine; decide), fun p35 hp35 => ?_⟩
    have s35 : Same H35 (upd H35 p35 (.lst [V.ref q1, .ref q2])) := same_new hp35
    have np35 : p35 ≠ a := (B35.R.new hp35).symm
    have e35 : (upd H35 p35 (.lst [V.ref q1, .ref q2])) p35 = some (.lst [V.ref q1, .ref q2]) := upd_same
    have B36 := B35.mono s35
    have o32 := o32.same s35
    have o34 := o34.same s35
    have eL2 := s35 _ _ eL2
    have OL2 := OptsOk.same s35 OL2
    generalize (upd H35 p35 (.lst [V.ref q1, .ref q2])) = H36 at s35 e35 B36 o32 o34 eL2 OL2 ⊢
    clear hp35 s35 B35
    have d35 : Dx a H36 (.ref p35) _ := .lst np35 e35 (.cons B36.d1 (.cons B36.d2 .nil))
    have o35 : OneOk a n tl H36 (.ref p35) := ⟨_, d35, (fun _ _ _ _ h => by cases h)⟩
    refine ⟨(by show 3 ≤ sizeLine; decide), fun p36 hp36 => ?_⟩
    have s36 : Same H36 (upd H36 p36 (.lst [V.ref p32, V.ref p34, V.ref p35])) := same_new hp36
    have nM3 : p36 ≠ a := (B36.R.new hp36).symm
    have eM3 : (upd H36 p36 (.lst [V.ref p32, V.ref p34, V.ref p35])) p36 = some (.lst [V.ref p32, V.ref p34, V.ref p35]) := upd_same
    have B37 := B36.mono s36
    have OM3 : OptsOk a n tl (upd H36 p36 (.lst [V.ref p32, V.ref p34, V.ref p35])) [V.ref p32, V.ref p34, V.ref p35] := OptsOk.same s36 ((OptsOk.cons o32 (OptsOk.cons o34 (OptsOk.cons o35 OptsOk.nil))))
    have eL2 := s36 _ _ eL2
    have OL2 := OptsOk.same s36 OL2
    generalize (upd H36 p36 (.lst [V.ref p32, V.ref p34, V.ref p35])) = H37 at s36 eM3 B37 OM3 eL2 OL2 ⊢
    clear hp36 s36 B36 o32 o34 o35
    have hz3 : xs2.length + 3 ≤ sizeLine := by rw [hlen2]; exact Nat.le_of_lt (small1000 (by omega))
    have OPRE := OptsOk.append OL2 OM3
    have BPRE := B37
    refine ⟨p29, p36, _, _, rfl, rfl, eL2, eM3, hz3, fun p37 hp37 => ?_⟩
    have s37 : Same H37 (upd H37 p37 (.lst (xs2 ++ [V.ref p32, V.ref p34, V.ref p35]))) := same_new hp37
    have nL3 : p37 ≠ a := (B37.R.new hp37).symm
    have eL3 : (upd H37 p37 (.lst (xs2 ++ [V.ref p32, V.ref p34, V.ref p35]))) p37 = some (.lst (xs2 ++ [V.ref p32, V.ref p34, V.ref p35])) := upd_same
    have B38 := B37.mono s37
    have OL3 : OptsOk a n tl (upd H37 p37 (.lst (xs2 ++ [V.ref p32, V.ref p34, V.ref p35]))) (xs2 ++ [V.ref p32, V.ref p34, V.ref p35]) := OptsOk.same s37 (OptsOk.append OL2 OM3)
    have hPRE := hp37
    have sPRE := s37
    generalize (upd H37 p37 (.lst (xs2 ++ [V.ref p32, V.ref p34, V.ref p35]))) = H38 at s37 eL3 B38 OL3 sPRE ⊢
    clear hp37 s37 B37 
    generalize hx3 : (xs2 ++ [V.ref p32, V.ref p34, V.ref p35] : List V) = xs3 at eL3 OL3 OPRE ⊢
    have hlen3 : xs3.length = 20 := by rw [← hx3, List.length_append, hlen2]; rfl
    clear hx3 eL2 OL2 eM3 OM3
    -- one option more
    refine ⟨fun σ' H' => ∃ xs : List V, σ' = [some (.ref a), some (.ref q), some (.ref t), some (.ref q1), some (.ref q2), some (.ref p37)] ∧ H' p37 = some (.lst xs) ∧ OptsOk a n tl H' xs ∧ 0 < xs.length ∧ xs.length < 1000 ∧ Kx a H0 H' ∧ Src H' a b, ?_, ?_⟩
    · refine ⟨_, rfl, t, _, _, _, rfl, rfl, SqT.of B38.et, tl.at0, rfl, _, rfl, ?_⟩
      by_cases hrp : ∃ m, tl = .rep m
      · obtain ⟨m, rfl⟩ := hrp
        refine iteFb (congrArg not wRR) ?_
        exact ⟨xs3, rfl, eL3, OL3, by omega, by omega, Kx.of B38.S, B38.R⟩
      · have hwd : (!decide (V.str tl.word = V.str "repeat")) = true := by
          cases tl with
          | fin => exact congrArg not wER
          | times b => exact congrArg not wTR
          | rep m => exact absurd ⟨m, rfl⟩ hrp
        refine iteTb hwd ?_
        refine ⟨_, rfl, .inl ⟨rfl, _, SqL.of eL3⟩, _, rfl, _, _, rfl, rfl, ⟨by decide, by decide, by decide⟩, _, _, rfl, rfl, ⟨by decide, by decide, by decide⟩, _, _, rfl, rfl, (by show 2 ≤ sizeLine; decide), fun u hu => ⟨(by show 2 ≤ sizeLine; decide), fun v hv => ?_⟩⟩
        have su := same_new (o := .tup [V.int ((10 : Int) ^ (6 : Int).toNat), .int ((10 : Int) ^ (6 : Int).toNat + 1)]) hu
        have nu := (B38.R.new hu).symm
        have Bu := B38.mono su
        have nv := (Bu.R.new hv).symm
        have sv := same_new (o := .tup [V.ref q1, .ref u]) hv
        have Bv := Bu.mono sv
        have S2 := su.trans sv
        have hpv := S2 _ _ eL3
        have npl : p37 ≠ v := ne_of_none (su _ _ eL3) hv
        have npu : p37 ≠ u := ne_of_none eL3 hu
        have eu := sv _ _ (upd_same (H := H38) (a := u) (o := .tup [V.int ((10 : Int) ^ (6 : Int).toNat), .int ((10 : Int) ^ (6 : Int).toNat + 1)]))
        have ev := upd_same (H := upd H38 u (.tup [V.int ((10 : Int) ^ (6 : Int).toNat), .int ((10 : Int) ^ (6 : Int).toNat + 1)])) (a := v) (o := .tup [V.ref q1, .ref u])
        have nqp : q1 ≠ p37 := ne_of B38.e1 eL3 (by intro z; cases z)
        have SP := sPRE.trans S2
        generalize hH9 : (upd (upd H38 u (.tup [V.int ((10 : Int) ^ (6 : Int).toNat), .int ((10 : Int) ^ (6 : Int).toNat + 1)])) v (.tup [V.ref q1, .ref u])) = H9 at hpv eu ev Bv SP ⊢
        refine ⟨p37, _, _, rfl, rfl, hpv, small1000 (by omega), xs3 ++ [.ref v], rfl, upd_same, ?_, ?_, ?_, ?_, ?_⟩
        · refine OptsOk.append (fun z hz => ?_) (OptsOk.cons ⟨.tuple [.tuple [.int (lo : Int), .int (hi : Int)], .tuple [.int ((10 : Int) ^ (6 : Int).toNat), .int ((10 : Int) ^ (6 : Int).toNat + 1)]], ?_, ?_⟩ OptsOk.nil)
          · obtain ⟨d, hd, ht⟩ := OPRE z hz
            refine ⟨d, hd.kx' (fun c w nc e => ?_), ht⟩
            rw [upd_ne (ne_of_none e hPRE)]
            exact SP _ _ e
          · refine .tup nv ((upd_ne npl.symm).trans ev) (.cons (.tup n1 ((upd_ne nqp).trans Bv.e1) (.cons (.int _) (.cons (.int _) .nil))) (.cons (.tup nu ((upd_ne npu.symm).trans eu) (.cons (.int _) (.cons (.int _) .nil))) .nil))
          · exact tame_two (te_nat hlo) (te_nat hhi) (fun i e => by cases e; exact .inr ⟨by decide, fun m e => hrp ⟨m, e⟩⟩) (fun i e => by cases e; exact .inr ⟨by decide, fun m e => hrp ⟨m, e⟩⟩)
        · rw [List.length_append]; show 0 < _ + 1; omega
        · rw [List.length_append]; show _ + 1 < 1000; omega
        · intro c w nc e
          have e2 := BPRE.S _ _ e
          rw [upd_ne (ne_of_none e2 hPRE)]
          exact SP _ _ e2
        · obtain ⟨s0, s1, s2, h1, h2⟩ := Bv.R.ex
          exact ⟨s0, s1, s2, by rw [upd_ne nL3.symm]; exact h1, h2⟩
    · rintro _ H' ⟨xs, rfl, hL, hO, hx0, hx1, kx, R⟩
      refine ⟨_, rfl, _, rfl, a, p37, xs, b, rfl, R, by omega, nL3, hL, hx0, hx1, fun z H2 hz kx2 R2 => ?_⟩
      obtain ⟨d, hd, htm⟩ := hO z hz
      exact k z d H2 (hd.kx' kx2) htm (kx.trans kx2) R2
end
end RS
namespace RS
open PySem L2
/-! ### first attempts from a distance on: the mathematics -/
theorem gap_pos {gs : List Int} {tl : Tl} (okG : GapsOk gs) (okT : TlOk gs.length tl) {n : Nat} (hf : tl = .fin → n < gs.length) : 1 ≤ gapf gs tl n := by
  by_cases h : n < gs.length
  · rw [gap_low h]
    exact (gap_bd okG h).1
  · cases tl with
    | fin => exact absurd (hf rfl) h
    | times b =>
      rw [gap_times (by omega)]
      have h1 : 1 ≤ lastG gs := (gap_bd okG (k := gs.length - 1) (by have := okT.1; omega)).1
      have h2 : 0 < b ^ (n - gs.length + 1) := Int.pow_pos (by have := okT.2.1; omega)
      have h3 := Int.mul_le_mul h1 (show 1 ≤ b ^ (n - gs.length + 1) by omega) (by decide) (by omega)
      omega
    | rep m =>
      rw [gap_rep (by omega)]
      have h1 : (n - gs.length) % m < m := Nat.mod_lt _ (by have := okT.1; omega)
      exact (gap_bd okG (by have := okT.2; omega)).1
theorem off_mono {gs : List Int} {tl : Tl} (okG : GapsOk gs) (okT : TlOk gs.length tl) (i : Nat) : ∀ k, (tl = .fin → i + k ≤ gs.length) → off gs tl i + (k : Int) ≤ off gs tl (i + k)
  | 0, _ => by simp
  | k + 1, h => by
    have ih := off_mono okG okT i k fun e => by have := h e; omega
    have hf : tl = .fin → i + k < gs.length := fun e => by have := h e; omega
    have hg := gap_pos okG okT hf
    have hs := off_succ okT hf
    rw [show i + (k + 1) = i + k + 1 by omega, hs]
    omega
theorem off_lt {gs : List Int} {tl : Tl} (okG : GapsOk gs) (okT : TlOk gs.length tl) {i j : Nat} (h : i < j) (hf : tl = .fin → j ≤ gs.length) : off gs tl i < off gs tl j := by
  have := off_mono okG okT i (j - i) fun e => by have := hf e; omega
  rw [show i + (j - i) = j by omega] at this
  omega
theorem AttOk.fin {gs : List Int} {tl : Tl} {n : Nat} (h : AttOk gs tl n) : tl = .fin → n ≤ gs.length := fun e => by subst e; exact h
/-- what first_from hands back -/
def FF (gs : List Int) (tl : Tl) (d : Int) (r : V) : Prop := (r = .non ∧ tl = .fin ∧ pre gs gs.length < d) ∨ ∃ n : Nat, r = .int (n : Int) ∧ AttOk gs tl n ∧ d ≤ off gs tl n ∧ (0 < n → off gs tl (n - 1) < d)
theorem FF_one {gs : List Int} {tl : Tl} (okG : GapsOk gs) (okT : TlOk gs.length tl) {d : Int} {r s : V} (h1 : FF gs tl d r) (h2 : FF gs tl d s) : r = s := by
  have key : ∀ {n m : Nat}, AttOk gs tl n → AttOk gs tl m → d ≤ off gs tl n → (0 < m → off gs tl (m - 1) < d) → ¬ n < m := by
    intro n m hn hm h3 h4 h5
    have h6 := h4 (by omega)
    have h7 : off gs tl n ≤ off gs tl (m - 1) := by
      by_cases e : n = m - 1
      · rw [← e]
        exact Int.le_refl _
      · exact Int.le_of_lt (off_lt okG okT (by omega) fun e => by have := hm.fin e; omega)
    omega
  have low : ∀ {n : Nat}, tl = .fin → AttOk gs tl n → d ≤ off gs tl n → ¬ pre gs gs.length < d := by
    intro n e hn h3 h4
    subst e
    have hn : n ≤ gs.length := hn
    have h5 := off_mono okG okT n (gs.length - n) fun _ => by omega
    rw [show n + (gs.length - n) = gs.length by omega, off_low (Nat.le_refl gs.length)] at h5
    omega
  rcases h1 with ⟨rfl, e1, l1⟩ | ⟨n, rfl, a1, b1, c1⟩ <;> rcases h2 with ⟨rfl, e2, l2⟩ | ⟨m, rfl, a2, b2, c2⟩
  · rfl
  · exact absurd l1 (low e1 a2 b2)
  · exact absurd l2 (low e2 a1 b1)
  · have x := key a1 a2 b1 c2
    have y := key a2 a1 b2 c1
    rw [show n = m by omega]
/-- what attempt_at hands back -/
def AA (gs : List Int) (tl : Tl) (d : Int) (r : V) : Prop := ∃ a, FF gs tl d a ∧ ((∃ n : Nat, a = .int (n : Int) ∧ off gs tl n = d ∧ r = a) ∨ ((∀ n : Nat, a = .int (n : Int) → off gs tl n ≠ d) ∧ r = .non))
theorem off_turn {gs : List Int} {m : Nat} (h1 : 1 ≤ m) (h2 : m ≤ gs.length) {j : Nat} (hj0 : gs.length - m ≤ j) (hj1 : j ≤ gs.length) (q : Nat) : off gs (.rep m) (j + m * q) = pre gs j + (q : Int) * per gs m := by
  cases q with
  | zero =>
    rw [Nat.mul_zero, Nat.add_zero, off_low hj1]
    simp
  | succ q =>
    have e0 : m * (q + 1) = m * q + m := Nat.mul_succ m q
    rw [off_rep h1 h2 (by omega)]
    by_cases hj : j = gs.length
    · subst hj
      rw [show gs.length + m * (q + 1) - gs.length = m * (q + 1) by omega, Nat.mul_mod_right, Nat.mul_div_cancel_left _ (by omega), Nat.add_zero, Int.add_mul, Int.one_mul]
      have e1 : per gs m = pre gs gs.length - pre gs (gs.length - m) := rfl
      omega
    · rw [show j + m * (q + 1) - gs.length = (j - (gs.length - m)) + m * q by omega, Nat.add_mul_mod_self_left, Nat.add_mul_div_left _ _ (by omega), Nat.mod_eq_of_lt (by omega), Nat.div_eq_of_lt (by omega), Nat.zero_add, show gs.length - m + (j - (gs.length - m)) = j by omega]
      rw [Int.natCast_add, Int.natCast_one]
end RS
namespace RS
open PySem L2
theorem many_ok {gs : List Int} {tl : Tl} (okG : GapsOk gs) {k : Nat} (h : k < manyC gs 60 tl) : AttOk gs tl k := by
  cases tl with
  | fin =>
    have h' : k < min 60 (gs.length + 1) := h
    show k ≤ gs.length
    omega
  | times b =>
    have h' : k < 60 := h
    show k ≤ 1000
    omega
  | rep m => exact True.intro
theorem many_of {gs : List Int} {tl : Tl} (okG : GapsOk gs) {k : Nat} (h : AttOk gs tl k) (ht : (k : Int) < (manyC gs 60 tl : Nat) ∨ ((1000 : Int) < k ∧ ∀ m, tl ≠ .rep m)) : k < manyC gs 60 tl := by
  rcases ht with ht | ⟨h1, h2⟩
  · omega
  · cases tl with
    | fin =>
      have h' : k ≤ gs.length := h
      have := okG.1
      omega
    | times b =>
      have h' : k ≤ 1000 := h
      omega
    | rep m => exact absurd rfl (h2 m)
theorem offL_getD (gs : List Int) (tl : Tl) {n k : Nat} (h : k < n) : (offL gs tl n).getD k 0 = off gs tl k := by
  rw [List.getD_eq_getElem?_getD, offL_get gs tl h]
  rfl
theorem nat_fst (i j : Nat) : fstN (.tuple [.int (i : Int), .int (j : Int)]) = i := by show ((i : Nat) : Int).toNat = i; rw [Int.toNat_natCast]
theorem nat_snd (i j : Nat) : sndN (.tuple [.int (i : Int), .int (j : Int)]) = j := by show ((j : Nat) : Int).toNat = j; rw [Int.toNat_natCast]
theorem pair_of {gs : List Int} {tl : Tl} {i j : Nat} (hi : AttOk gs tl i) (hj : AttOk gs tl j) (h : i < j) : isPairD gs tl (.tuple [.int (i : Int), .int (j : Int)]) = true := by
  have e : ∀ {n : Nat}, AttOk gs tl n → isAtt gs tl (.int (n : Int)) = true := fun {n} hn => by
    show (decide (0 ≤ (n : Int)) && attB gs tl (n : Int).toNat) = true
    rw [Int.toNat_natCast, attB_iff.mpr hn, decide_eq_true (by omega)]
    rfl
  show (isAtt gs tl (.int (i : Int)) && (isAtt gs tl (.int (j : Int)) && decide (((i : Nat) : Int).toNat < ((j : Nat) : Int).toNat))) = true
  rw [e hi, e hj, Int.toNat_natCast, Int.toNat_natCast, decide_eq_true h]
  rfl
/-- the program and the law say the same -/
theorem rep_due {gs : List Int} {tl : Tl} (okG : GapsOk gs) (okT : TlOk gs.length tl) {d : PyData} (ht : Tame (manyC gs 60 tl) tl d) : isRepD gs tl d = dueD (offL gs tl (manyC gs 60 tl)) d := by
  have hl : (offL gs tl (manyC gs 60 tl)).length = manyC gs 60 tl := offL_len _ _ _
  generalize hn : manyC gs 60 tl = n at ht hl
  -- two pairs below n
  have core : ∀ {i j i2 j2 : Nat}, i < j → j < n → i2 < j2 → j2 < n →
      (!decide (i = i2) && decide (off gs tl j - off gs tl i = off gs tl j2 - off gs tl i2)) = (!(decide (i = i2) && decide (j = j2)) && decide ((offL gs tl n).getD j 0 - (offL gs tl n).getD i 0 = (offL gs tl n).getD j2 0 - (offL gs tl n).getD i2 0)) := by
    intro i j i2 j2 h1 h2 h3 h4
    rw [offL_getD _ _ h2, offL_getD _ _ (show i < n by omega), offL_getD _ _ h4, offL_getD _ _ (show i2 < n by omega)]
    by_cases e : i = i2
    · subst e
      by_cases e2 : j = j2
      · subst e2
        simp
      · rw [decide_eq_true rfl, decide_eq_false e2, decide_eq_false]
        · rfl
        · intro z
          have z : off gs tl j = off gs tl j2 := by omega
          have a1 : AttOk gs tl j := many_ok okG (by omega)
          have a2 : AttOk gs tl j2 := many_ok okG (by omega)
          rcases Nat.lt_or_gt_of_ne e2 with h | h
          · have := off_lt okG okT h a2.fin
            omega
          · have := off_lt okG okT h a1.fin
            omega
    · rw [decide_eq_false e]
      rfl
  cases h2 : twoD d with
  | none =>
    unfold isRepD dueD
    rw [h2]
  | some p =>
    obtain ⟨x, y⟩ := p
    have er : isRepD gs tl d = (isPairD gs tl x && (isPairD gs tl y && (!decide (fstN x = fstN y) && decide (diffD gs tl x = diffD gs tl y)))) := by unfold isRepD; rw [h2]
    have ed : dueD (offL gs tl n) d = (plainD n x && (plainD n y && (!(decide (fstN x = fstN y) && decide (sndN x = sndN y)) && decide (diffO (offL gs tl n) x = diffO (offL gs tl n) y)))) := by unfold dueD; rw [h2, hl]
    have e2 : d = .tuple [x, y] := by
      unfold twoD at h2
      split at h2
      · cases h2
        rfl
      · cases h2
    rw [er, ed]
    have step : ∀ {i j i2 j2 : Nat}, x = .tuple [.int (i : Int), .int (j : Int)] → y = .tuple [.int (i2 : Int), .int (j2 : Int)] → i < j → j < n → i2 < j2 → j2 < n →
        (!decide (fstN x = fstN y) && decide (diffD gs tl x = diffD gs tl y)) = (!(decide (fstN x = fstN y) && decide (sndN x = sndN y)) && decide (diffO (offL gs tl n) x = diffO (offL gs tl n) y)) := by
      intro i j i2 j2 ex ey g1 g2 g3 g4
      subst ex ey
      unfold diffD diffO
      rw [nat_fst, nat_fst, nat_snd, nat_snd]
      exact core g1 g2 g3 g4
    rw [Bool.eq_iff_iff]
    simp only [Bool.and_eq_true]
    constructor
    · rintro ⟨p1, p2, p3⟩
      obtain ⟨i, j, rfl, a1, a2, a3⟩ := isPair_of p1
      obtain ⟨i2, j2, rfl, b1, b2, b3⟩ := isPair_of p2
      obtain ⟨t1, t2, t3, t4⟩ := ht _ _ _ _ e2
      subst hn
      have c2 := many_of okG a2 (t2 _ rfl)
      have d2 := many_of okG b2 (t4 _ rfl)
      have q : ∀ {i j : Nat}, i < j → j < manyC gs 60 tl → plainD (manyC gs 60 tl : Nat) (.tuple [.int (i : Int), .int (j : Int)]) = true := by
        intro i j h1 h2
        show (true && (true && (decide (0 ≤ (i : Int)) && (decide ((i : Int) < (j : Int)) && decide ((j : Int) < ((manyC gs 60 tl : Nat) : Int)))))) = true
        rw [decide_eq_true (by omega), decide_eq_true (by omega), decide_eq_true (by omega)]
        rfl
      refine ⟨q a3 c2, q b3 d2, ?_⟩
      rw [← Bool.and_eq_true, ← step rfl rfl a3 c2 b3 d2, Bool.and_eq_true]
      exact p3
    · rintro ⟨p1, p2, p3⟩
      obtain ⟨i, j, rfl, a1, a2⟩ := plain_of p1
      obtain ⟨i2, j2, rfl, b1, b2⟩ := plain_of p2
      have a2 : j < n := by omega
      have b2 : j2 < n := by omega
      subst hn
      refine ⟨pair_of (many_ok okG (by omega)) (many_ok okG a2) a1, pair_of (many_ok okG (by omega)) (many_ok okG b2) b1, ?_⟩
      rw [← Bool.and_eq_true, step rfl rfl a1 a2 b1 b2, Bool.and_eq_true]
      exact p3
/-! ### attempts around 1000 -/
theorem th1 : isRepD [1, 1] (.times 2) (.tuple [.tuple [.int 0, .int 999], .tuple [.int 999, .int 1000]]) = true := by decide +kernel
theorem th2 : isRepD [1, 1] (.times 2) (.tuple [.tuple [.int 0, .int 998], .tuple [.int 999, .int 1000]]) = false := by decide +kernel
theorem th3 : isRepD [1, 1] (.times 2) (.tuple [.tuple [.int 0, .int 1000], .tuple [.int 1000, .int 1001]]) = false := by decide +kernel
theorem th4 : isRepD [1, 1] (.times 2) (.tuple [.tuple [.int 0, .int 1001], .tuple [.int 1001, .int 1002]]) = false := by decide +kernel
end RS
namespace RS
open PySem L2
/-! ### slices -/
theorem cut_to (xs : List V) (n : Nat) : cutV xs none (some (n : Int)) = xs.take n := by
  unfold cutV
  rw [HT.sIx_none, HT.sIx_nat, List.drop_zero, Nat.sub_zero]
  by_cases h : n ≤ xs.length
  · rw [Nat.min_eq_left h]
  · rw [Nat.min_eq_right (by omega), List.take_length, List.take_of_length_le (by omega)]
theorem cut_mid (xs : List V) (i n : Nat) : cutV xs (some (i : Int)) (some (n : Int)) = (xs.drop i).take (n - i) := by
  unfold cutV
  rw [HT.sIx_nat, HT.sIx_nat]
  by_cases h : i ≤ xs.length
  · rw [Nat.min_eq_left h]
    by_cases h2 : n ≤ xs.length
    · rw [Nat.min_eq_left h2]
    · rw [Nat.min_eq_right (by omega), List.take_of_length_le (by rw [List.length_drop]; exact Nat.le_refl _), List.take_of_length_le (by rw [List.length_drop]; omega)]
  · rw [show min i xs.length = xs.length by omega, List.drop_of_length_le (Nat.le_refl _), List.drop_of_length_le (show xs.length ≤ i by omega)]
    simp
theorem cut_back (xs : List V) {m : Nat} (h0 : 0 < m) (h : m ≤ xs.length) : cutV xs (some (-(m : Int))) none = xs.drop (xs.length - m) := by
  have e : HT.sIx xs.length 0 (some (-(m : Int))) = xs.length - m := by
    show (if -(m : Int) < 0 then (-(m : Int) + (xs.length : Int)).toNat else min (-(m : Int)).toNat xs.length) = _
    rw [if_pos (by omega)]
    omega
  unfold cutV
  rw [e, HT.sIx_none, List.take_of_length_le (by rw [List.length_drop]; exact Nat.le_refl _)]
theorem cut_from (xs : List V) {i : Nat} (h : i ≤ xs.length) : cutV xs (some (i : Int)) none = xs.drop i := by
  unfold cutV
  rw [HT.sIx_nat, HT.sIx_none, Nat.min_eq_left h, List.take_of_length_le (by rw [List.length_drop]; exact Nat.le_refl _)]
end RS
namespace RS
open PySem L2
/-! ### what the law's turn keeps -/
structure LawAt (C : Addr) (H : Hp) (a L g p g2 t o : Addr) (cs gs : List Int) (tl : Tl) : Prop where
  R : RuleAt C H p g2 t o gs tl
  hL : H L = some (.lst (cs.map V.int))
  hg : H g = some (.lst (gs.map V.int))
  nL : L ≠ a
  ng : g ≠ a
  np : p ≠ a
  n2 : g2 ≠ a
  nt : t ≠ a
  no : o ≠ a
theorem RuleAt.kx {C a : Addr} {H H' : Hp} {p g t o : Addr} {gs : List Int} {tl : Tl} (R : RuleAt C H p g t o gs tl) (h : Kx a H H') (np : p ≠ a) (ng : g ≠ a) (nt : t ≠ a) (no : o ≠ a) : RuleAt C H' p g t o gs tl :=
  ⟨let ⟨dx, e⟩ := R.ob; ⟨dx, h _ _ np e⟩, h _ _ ng R.hg, h _ _ nt R.ht, h _ _ no R.ho, R.okG, R.okT⟩
theorem LawAt.kx {C : Addr} {H H' : Hp} {a L g p g2 t o : Addr} {cs gs : List Int} {tl : Tl} (B : LawAt C H a L g p g2 t o cs gs tl) (h : Kx a H H') : LawAt C H' a L g p g2 t o cs gs tl :=
  ⟨B.R.kx h B.np B.n2 B.nt B.no, h _ _ B.nL B.hL, h _ _ B.ng B.hg, B.nL, B.ng, B.np, B.n2, B.nt, B.no⟩
theorem LawAt.same {C : Addr} {H H' : Hp} {a L g p g2 t o : Addr} {cs gs : List Int} {tl : Tl} (B : LawAt C H a L g p g2 t o cs gs tl) (h : Same H H') : LawAt C H' a L g p g2 t o cs gs tl := B.kx (Kx.of h)
theorem made_same {H : Hp} {p dx : Addr} {o1 o2 : HO} (hp : H p = none) (hd : H dx = none) : Same H (upd (upd H dx o1) p o2) := fun b u e => by
  rw [upd_ne (ne_of_none e hp), upd_ne (ne_of_none e hd)]
  exact e
/-- the law's promise: a list of at most 63 ints is handed in, True comes out -/
def spLaw (K : PySem.W.Frag) : Sp := fun vs H Q _ => ∃ (a : Addr) (ns : List Int), vs = [.ref a] ∧ SqL K H a (ns.map V.int) ∧ ns.length ≤ 63 ∧ ∀ H', Q (.bl true) H'
/-- the cells: the first number (or 0), then some more -/
def cellsOf (n : Nat) (ns : List Int) : List Int := ns.getD 0 0 :: ((ns.drop 1).take (n - 1))
end RS
namespace RS
open PySem L2
section
variable {P : Program} {w : World} {K : PySem.W.Frag} {mg : Str → Option Value} {base : Heap}
/-! ### attempts around 1000 -/
def spTh : Sp := fun vs H Q _ => vs = [] ∧ ∀ H', Same H H' → Q (.bl true) H'
theorem scTh : FnScope ["_law_rule"] [] (defScope s_law_thousand_right) := ⟨rfl, rfl, rfl, by decide +kernel, rfl, by decide +kernel, by decide +kernel⟩
theorem ok_th {f C fI fR : Addr} {fd fdI fdR : FuncData} (F : Fun K "_law_thousand_right" "_law_thousand_right" s_law_thousand_right f fd) (T : Txt K mg C) (M : Mk K C fI) (GI : FnOk P w K mg base CX0 3 fI fdI ["self", "gaps", "tail"] (spInit C)) (bI : Binds K fdI ["self", "gaps", "tail"] [])
    (GR : FnOk P w K mg base CX0 7 fR fdR ["rule", "value"] (spIsRep C)) (bR : Binds K fdR ["rule", "value"] []) (mR : mg "is_repetition" = some (.ref fR)) (kR : PySem.W.keepIn K (.ref fR) = true) : FnOk P w K mg base CX0 8 f fd [] spTh := by
  refine F.ok scTh (fun vs H Q E h => ?_) (fun cdv A outer s H0 vs Q E hr h => ?_)
  · obtain ⟨rfl, _⟩ := h
    rfl
  · obtain ⟨rfl, k⟩ := h
    have hr4 := hr.mono (show 4 ≤ 7 by decide)
    refine ⟨_, (pss_cons (ps_set (i := 0) scTh.nd rfl (Or.inl rfl) (pe_make M GI hr4 rfl T.mgC bI .nil pass0 (pa_cons (pe_lst (pa_cons pe_int (pa_cons pe_int pa_nil))) (pa_cons (pe_tup (pa_cons pe_str (pa_cons pe_int pa_nil))) pa_nil)))) (pss_cons (ps_if (PW.pt (pw_or (pt_not (pt_val (pe_call GR hr rfl mR kR bR .nil pass0 (pa_cons (pv 0) (pa_cons (pe_tup (pa_cons (pe_tup (pa_cons pe_int (pa_cons pe_int pa_nil))) (pa_cons (pe_tup (pa_cons pe_int (pa_cons pe_int pa_nil))) pa_nil))) pa_nil))))) (pw_or1 (pt_val (pe_call GR hr rfl mR kR bR .nil pass0 (pa_cons (pv 0) (pa_cons (pe_tup (pa_cons (pe_tup (pa_cons pe_int (pa_cons pe_int pa_nil))) (pa_cons (pe_tup (pa_cons pe_int (pa_cons pe_int pa_nil))) pa_nil))) pa_nil))))))) (pss_one (ps_ret pe_bl)) pss_nil) (pss_one (ps_ret (pe_and (pe_not (pe_call GR hr rfl mR kR bR .nil pass0 (pa_cons (pv 0) (pa_cons (pe_tup (pa_cons (pe_tup (pa_cons pe_int (pa_cons pe_int pa_nil))) (pa_cons (pe_tup (pa_cons pe_int (pa_cons pe_int pa_nil))) pa_nil))) pa_nil)))) (pe_one (pe_not (pe_call GR hr rfl mR kR bR .nil pass0 (pa_cons (pv 0) (pa_cons (pe_tup (pa_cons (pe_tup (pa_cons pe_int (pa_cons pe_int pa_nil))) (pa_cons (pe_tup (pa_cons pe_int (pa_cons pe_int pa_nil))) pa_nil))) pa_nil)))))))))), ?_⟩
    refine ⟨(by show 2 ≤ sizeLine; decide), fun l hl => ⟨(by show 2 ≤ sizeLine; decide), fun t ht => ?_⟩⟩
    have sl := same_new (o := .lst [V.int 1, .int 1]) hl
    have st := same_new (o := .tup [V.str "times", .int 2]) ht
    refine fun p dx hp hdx _ => ?_
    have Sm := made_same (o1 := .own p) (o2 := .ins C dx []) hp hdx
    have okG : GapsOk [1, 1] := ⟨by decide, by decide⟩
    refine ⟨p, dx, l, t, [1, 1], .times 2, rfl, upd_same, Sm _ _ (st _ _ upd_same), Sm _ _ upd_same, okG, ⟨by decide, by decide, by decide⟩, fun g2 o H4 hg2 ho kp R4 => ⟨rfl, ?_⟩⟩
    have S4 : Same H0 H4 := fun b u e => kp b u (Sm _ _ (st _ _ (sl _ _ e))) (ne_of_none (st _ _ (sl _ _ e)) hp)
    have hl4 : H4 l = some (.lst [V.int 1, .int 1]) := kp _ _ (Sm _ _ (st _ _ upd_same)) (ne_of_none (st _ _ upd_same) hp)
    clear sl st Sm hl ht hp hdx hg2 ho kp
    -- one call
    have one : ∀ {H : Hp} (i j i2 j2 : Int), H l = some (.lst [V.int 1, .int 1]) → ∀ u, H u = none → ∀ v, (upd H u (.tup [V.int i, .int j])) v = none → ∀ z, (upd (upd H u (.tup [V.int i, .int j])) v (.tup [V.int i2, .int j2])) z = none →
        Same H (upd (upd (upd H u (.tup [V.int i, .int j])) v (.tup [V.int i2, .int j2])) z (.tup [V.ref u, .ref v])) ∧ Dx l (upd (upd (upd H u (.tup [V.int i, .int j])) v (.tup [V.int i2, .int j2])) z (.tup [V.ref u, .ref v])) (.ref z) (.tuple [.tuple [.int i, .int j], .tuple [.int i2, .int j2]]) := by
      intro H i j i2 j2 hl u hu v hv z hz
      have su := same_new (o := .tup [V.int i, .int j]) hu
      have sv := same_new (o := .tup [V.int i2, .int j2]) hv
      have sz := same_new (o := .tup [V.ref u, .ref v]) hz
      have nu : u ≠ l := (ne_of_none hl hu).symm
      have nv : v ≠ l := (ne_of_none (su _ _ hl) hv).symm
      have nz : z ≠ l := (ne_of_none (sv _ _ (su _ _ hl)) hz).symm
      exact ⟨(su.trans sv).trans sz, .tup nz upd_same (.cons (.tup nu (sz _ _ (sv _ _ upd_same)) (.cons (.int _) (.cons (.int _) .nil))) (.cons (.tup nv (sz _ _ upd_same) (.cons (.int _) (.cons (.int _) .nil))) .nil))⟩
    refine ⟨_, rfl, ?_⟩
    refine ⟨(by show 2 ≤ sizeLine; decide), fun u hu => ⟨(by show 2 ≤ sizeLine; decide), fun v hv => ⟨(by show 2 ≤ sizeLine; decide), fun z hz => ?_⟩⟩⟩
    obtain ⟨S1000x, D1000x⟩ := one 0 999 999 1000 hl4 u hu v hv z hz
    refine ⟨p, g2, t, o, l, [1, 1], .times 2, .ref z, _, rfl, R4.mono S1000x, D1000x, fun H5 S5 => ?_⟩
    have S5 := S1000x.trans S5
    refine ⟨true, ?_, ?_⟩
    · exact congrArg V.bl th1
    refine iteF ?_
    refine ⟨_, rfl, ?_⟩
    refine ⟨(by show 2 ≤ sizeLine; decide), fun u hu => ⟨(by show 2 ≤ sizeLine; decide), fun v hv => ⟨(by show 2 ≤ sizeLine; decide), fun z hz => ?_⟩⟩⟩
    obtain ⟨S1000x, D1000x⟩ := one 0 998 999 1000 (S5 _ _ hl4) u hu v hv z hz
    refine ⟨p, g2, t, o, l, [1, 1], .times 2, .ref z, _, rfl, (R4.mono S5).mono S1000x, D1000x, fun H6 S6 => ?_⟩
    have S6 := S1000x.trans S6
    refine ⟨false, ?_, ?_⟩
    · exact congrArg V.bl th2
    refine iteF ?_
    have S56 := S5.trans S6
    refine ⟨_, rfl, ?_⟩
    refine ⟨(by show 2 ≤ sizeLine; decide), fun u hu => ⟨(by show 2 ≤ sizeLine; decide), fun v hv => ⟨(by show 2 ≤ sizeLine; decide), fun z hz => ?_⟩⟩⟩
    obtain ⟨S1001x, D1001x⟩ := one 0 1000 1000 1001 (S56 _ _ hl4) u hu v hv z hz
    refine ⟨p, g2, t, o, l, [1, 1], .times 2, .ref z, _, rfl, (R4.mono S56).mono S1001x, D1001x, fun H7 S7 => ?_⟩
    have S7 := S1001x.trans S7
    refine ⟨false, ?_, true, rfl, ?_⟩
    · exact congrArg V.bl th3
    refine iteT ?_
    have S57 := S56.trans S7
    refine ⟨_, rfl, ?_⟩
    refine ⟨(by show 2 ≤ sizeLine; decide), fun u hu => ⟨(by show 2 ≤ sizeLine; decide), fun v hv => ⟨(by show 2 ≤ sizeLine; decide), fun z hz => ?_⟩⟩⟩
    obtain ⟨S1002x, D1002x⟩ := one 0 1001 1001 1002 (S57 _ _ hl4) u hu v hv z hz
    refine ⟨p, g2, t, o, l, [1, 1], .times 2, .ref z, _, rfl, (R4.mono S57).mono S1002x, D1002x, fun H8 S8 => ?_⟩
    have S8 := S1002x.trans S8
    refine ⟨false, ?_, ?_⟩
    · exact congrArg V.bl th4
    exact k H8 ((S4.trans S57).trans S8)
end
end RS
namespace RS
open PySem L2
structure LA (C : Addr) (H : Hp) (a L g p g2 t2 o t6 ofs : Addr) (cs gs : List Int) (tl : Tl) (n : Nat) : Prop where
  B : LawAt C H a L g p g2 t2 o cs gs tl
  hO : H ofs = some (.lst ((offL gs tl n).map V.int))
  nO : ofs ≠ a
  hT : H t6 = some (.tup tl.vs)
  nT : t6 ≠ a
theorem LA.kx {C : Addr} {H H' : Hp} {a L g p g2 t2 o t6 ofs : Addr} {cs gs : List Int} {tl : Tl} {n : Nat} (B : LA C H a L g p g2 t2 o t6 ofs cs gs tl n) (h : Kx a H H') : LA C H' a L g p g2 t2 o t6 ofs cs gs tl n :=
  ⟨B.B.kx h, h _ _ B.nO B.hO, B.nO, h _ _ B.nT B.hT, B.nT⟩
theorem LA.same {C : Addr} {H H' : Hp} {a L g p g2 t2 o t6 ofs : Addr} {cs gs : List Int} {tl : Tl} {n : Nat} (B : LA C H a L g p g2 t2 o t6 ofs cs gs tl n) (h : Same H H') : LA C H' a L g p g2 t2 o t6 ofs cs gs tl n := B.kx (Kx.of h)
theorem pe_bmK {X : Cx} {K : PySem.W.Frag} {T : String} {e : Expr} {r : V → List V → Hp → VK → Prop} {to : L2.TE} {t : L2.TA} (hK : X.K = K) (h : PE X e (tBM X.K T r to t)) : PE X e (tBM K T r to t) := hK ▸ h
theorem first_at {v : Int} : ∀ {os : List Int}, v ∈ os → ∃ j : Nat, os[j]? = some v ∧ ∀ m : Nat, m < j → os[m]? ≠ some v
  | y :: r, h => by
    by_cases e : y = v
    · exact ⟨0, by rw [e]; rfl, fun m hm => absurd hm (by omega)⟩
    · obtain ⟨j, hj, hf⟩ := first_at (v := v) (os := r) ((List.mem_cons.mp h).resolve_left fun z => e z.symm)
      refine ⟨j + 1, by simpa using hj, fun m hm => ?_⟩
      cases m with
      | zero =>
        intro z
        exact e (by simpa using z)
      | succ m => simpa using hf m (by omega)
theorem mem_of_inV {v : Int} {os : List Int} (h : inV (.int v) (os.map V.int) = true) : v ∈ os := by
  obtain ⟨y, hy, e⟩ := List.any_eq_true.mp h
  obtain ⟨z, hz, rfl⟩ := List.mem_map.mp hy
  have e : (z == v) = true := e
  rw [← eq_of_beq e]
  exact hz
theorem sorted_two {r1 r2 : Int} {ns : List Int} (hp : ns.Perm [r1, r2]) (hs : ns.Pairwise (· ≤ ·)) : ∃ x y, ns = [x, y] ∧ x ≤ y ∧ (x = r1 ∨ x = r2) ∧ (y = r1 ∨ y = r2) := by
  have hl := hp.length_eq
  match ns, hl with
  | [x, y], _ =>
    refine ⟨x, y, rfl, ?_, ?_, ?_⟩
    · exact (List.pairwise_cons.mp hs).1 y (by simp)
    · have := hp.mem_iff (a := x)
      simpa using this
    · have := hp.mem_iff (a := y)
      simpa using this
section
variable {P : Program} {w : World} {K : PySem.W.Frag} {mg : Str → Option Value} {base : Heap}
theorem scLaw : FnScope ["_law_script", "_law_cell", "_law_source", "_law_gaps_here", "_law_tail_here", "_law_rule", "_law_offsets_here", "_law_last", "_law_repeat", "_law_low", "_law_high", "_law_one", "_law_wanted", "_law_offset", "_law_pairs_so", "_law_at", "_law_other", "_law_value", "_law_told"] ["_law_script"] (defScope s_law) := ⟨rfl, rfl, rfl, by decide +kernel, rfl, by decide +kernel, by decide +kernel⟩
theorem ok_law {f C fI fCell fSrc fGs fTl fOf fN fO fCh fDue fR fTh : Addr} {fd fdI fdCell fdSrc fdGs fdTl fdOf fdN fdO fdCh fdDue fdR fdTh : FuncData} (F : Fun K "law" "law" s_law f fd) (T : Txt K mg C) (M : Mk K C fI) (GI : FnOk P w K mg base CX0 3 fI fdI ["self", "gaps", "tail"] (spInit C)) (bI : Binds K fdI ["self", "gaps", "tail"] [])
    (GCell : FnOk P w K mg base CX0 1 fCell fdCell ["_law_script", "_law_index"] (spCell K)) (bCell : Binds K fdCell ["_law_script", "_law_index"] []) (mCell : mg "_law_cell_at" = some (.ref fCell)) (kCell : PySem.W.keepIn K (.ref fCell) = true)
    (GSrc : FnOk P w K mg base CX0 1 fSrc fdSrc ["_law_cell"] spSrcOf) (bSrc : Binds K fdSrc ["_law_cell"] []) (mSrc : mg "_law_source_of" = some (.ref fSrc)) (kSrc : PySem.W.keepIn K (.ref fSrc) = true)
    (GGs : FnOk P w K mg base CX0 3 fGs fdGs ["_law_source"] spGps) (bGs : Binds K fdGs ["_law_source"] []) (mGs : mg "_law_gaps" = some (.ref fGs)) (kGs : PySem.W.keepIn K (.ref fGs) = true)
    (GTl : FnOk P w K mg base CX0 3 fTl fdTl ["_law_source", "_law_gaps_here", "_law_words"] spTl) (bTl : Binds K fdTl ["_law_source", "_law_gaps_here", "_law_words"] []) (mTl : mg "_law_tail" = some (.ref fTl)) (kTl : PySem.W.keepIn K (.ref fTl) = true)
    (GOf : FnOk P w K mg base CX0 1 fOf fdOf ["_law_gaps_here", "_law_tail_here", "_law_count"] spOfs) (bOf : Binds K fdOf ["_law_gaps_here", "_law_tail_here", "_law_count"] []) (mOf : mg "_law_offsets" = some (.ref fOf)) (kOf : PySem.W.keepIn K (.ref fOf) = true)
    (GN : FnOk P w K mg base CX0 1 fN fdN ["_law_source", "_law_bound"] spNext) (bN : Binds K fdN ["_law_source", "_law_bound"] []) (mN : mg "_law_draw" = some (.ref fN)) (kN : PySem.W.keepIn K (.ref fN) = true)
    (GO : FnOk P w K mg base CX0 2 fO fdO ["_law_source", "_law_options"] spOne) (bO : Binds K fdO ["_law_source", "_law_options"] []) (mO : mg "_law_choice" = some (.ref fO)) (kO : PySem.W.keepIn K (.ref fO) = true)
    (GCh : FnOk P w K mg base CX0 3 fCh fdCh ["_law_source", "_law_value", "_law_tail_here"] spCh) (bCh : Binds K fdCh ["_law_source", "_law_value", "_law_tail_here"] []) (mCh : mg "_law_changed" = some (.ref fCh)) (kCh : PySem.W.keepIn K (.ref fCh) = true)
    (GDue : FnOk P w K mg base CX0 2 fDue fdDue ["_law_offsets_here", "_law_value"] spDue) (bDue : Binds K fdDue ["_law_offsets_here", "_law_value"] []) (mDue : mg "_law_due" = some (.ref fDue)) (kDue : PySem.W.keepIn K (.ref fDue) = true)
    (GR : FnOk P w K mg base CX0 7 fR fdR ["rule", "value"] (spIsRep C)) (bR : Binds K fdR ["rule", "value"] []) (mR : mg "is_repetition" = some (.ref fR)) (kR : PySem.W.keepIn K (.ref fR) = true)
    (GTh : FnOk P w K mg base CX0 8 fTh fdTh [] spTh) (bTh : Binds K fdTh [] []) (mTh : mg "_law_thousand_right" = some (.ref fTh)) (kTh : PySem.W.keepIn K (.ref fTh) = true) (zsorted : mg "sorted" = none) : FnOk P w K mg base CX0 9 f fd ["_law_script"] (spLaw K) := by
  refine F.ok scLaw (fun vs H Q E h => ?_) (fun cdv A outer s H vs Q E hr h => ?_)
  · obtain ⟨a, ns, rfl, _⟩ := h
    rfl
  · obtain ⟨sc, ns, rfl, hs, hn63, k⟩ := h
    have hr1 := hr.mono (show 1 ≤ 8 by decide)
    have hr2 := hr.mono (show 2 ≤ 8 by decide)
    have hr3 := hr.mono (show 3 ≤ 8 by decide)
    have hr4 := hr.mono (show 4 ≤ 8 by decide)
    have hr7 := hr.mono (show 7 ≤ 8 by decide)
    refine ⟨_, (pss_cons (ps_if (pt_not (pt_val (pe_call0 GTh hr (by rfl) mTh kTh bTh .nil pass0))) (pss_one (ps_ret pe_bl)) pss_nil) (pss_cons (ps_for PassesOwn.never rfl (pi_list (pe_op op_cat (pe_lst (pa_cons (pe_call GCell hr1 rfl mCell kCell bCell .nil pass0 (pa_cons (pv 0) (pa_cons pe_int pa_nil))) pa_nil)) (pe_slice sl_list (pv 0) (po_some pe_int) (po_some pe_int)))) (pg_name (i := 1) scLaw.nd rfl (Or.inl rfl))
        (pss_cons (ps_set (i := 2) scLaw.nd rfl (Or.inl rfl) (pe_call GSrc hr1 rfl mSrc kSrc bSrc .nil pass0 (pa_cons (pv 1) pa_nil))) (pss_cons (ps_set (i := 3) scLaw.nd rfl (Or.inl rfl) (pe_call GGs hr3 rfl mGs kGs bGs .nil pass0 (pa_cons (pv 2) pa_nil))) (pss_cons (ps_set (i := 4) scLaw.nd rfl (Or.inl rfl) (pe_call GTl hr3 rfl mTl kTl bTl .nil pass0 (pa_cons (pv 2) (pa_cons (pv 3) (pa_cons (pe_lst (pa_cons pe_str (pa_cons pe_str (pa_cons pe_str pa_nil)))) pa_nil))))) (pss_cons (ps_set (i := 5) scLaw.nd rfl (Or.inl rfl) (pe_make M GI hr4 rfl T.mgC bI .nil pass0 (pa_cons (pv 3) (pa_cons (pv 4) pa_nil)))) (pss_cons (ps_set (i := 6) scLaw.nd rfl (Or.inr rfl) (pe_call GOf hr1 rfl mOf kOf bOf .nil pass0 (pa_cons (pv 3) (pa_cons (pv 4) (pa_cons pe_int pa_nil))))) (pss_cons (ps_set (i := 7) scLaw.nd rfl (Or.inl rfl) (pe_op op_sub (pe_callB call_len_seq (by rfl) T.len (by decide +kernel) (pa_cons (pv 6) pa_nil)) pe_int)) (pss_one (ps_for PassesOwn.never rfl (pi_range1 rfl T.range (pa_cons pe_int pa_nil)) (pg_name (i := 8) scLaw.nd rfl (Or.inl rfl))
            (pss_cons (ps_asg (pe_callB cr_sorted (by rfl) zsorted (by decide +kernel) (pa_cons (pe_lst (pa_cons (pe_call GN hr1 rfl mN kN bN .nil pass0 (pa_cons (pv 2) (pa_cons (pe_op op_add (pv 7) pe_int) pa_nil))) (pa_cons (pe_call GN hr1 rfl mN kN bN .nil pass0 (pa_cons (pv 2) (pa_cons (pe_op op_add (pv 7) pe_int) pa_nil))) pa_nil))) pa_nil)) (pg_lst rfl (pgs_cons (pg_name (i := 9) scLaw.nd rfl (Or.inr rfl)) (pgs_cons (pg_name (i := 10) scLaw.nd rfl (Or.inr rfl)) pgs_nil)))) (pss_cons (ps_set (i := 11) scLaw.nd rfl (Or.inl rfl) (pe_tup (pa_cons (pv 9) (pa_cons (pv 10) pa_nil)))) (pss_cons (ps_set (i := 12) scLaw.nd rfl (Or.inr rfl) (pe_lc (own := [("_law_offset", 13)]) (g := gName 13) (tt := tYes) rfl scLaw.nd (pi_list (pv 6)) (blkOk_by (own := [("_law_offset", 13)]) (N := ["_law_script", "_law_cell", "_law_source", "_law_gaps_here", "_law_tail_here", "_law_rule", "_law_offsets_here", "_law_last", "_law_repeat", "_law_low", "_law_high", "_law_one", "_law_wanted", "_law_offset", "_law_pairs_so", "_law_at", "_law_other", "_law_value", "_law_told"]) (sc := defScope s_law) (by decide +kernel)) (fun _ _ _ _ _ => (pg_name (i := 13) scLaw.nd rfl (Or.inl rfl))) (fun _ _ _ _ _ => pts_nil)
                (fun _ _ _ _ _ => (pe_op op_sub (pe_op op_add (pv 13) (pe_ix (r := rIxL K) ix_list (pv 6) (pv 10) (fun _ _ => rfl))) (pe_ix (r := rIxL K) ix_list (pv 6) (pv 9) (fun _ _ => rfl)))))) (pss_cons (ps_setLc (i := 14) (own := [("_law_at", 15)]) (g := gName 15) (by rfl) scLaw.nd rfl rfl (sw_true rfl rfl rfl (by decide +kernel)) (pi_range1 rfl T.range (pa_cons (pe_callB call_len_seq (by rfl) T.len (by decide +kernel) (pa_cons (pv 6) pa_nil)) pa_nil)) (blkOk_by (own := [("_law_at", 15)]) (N := ["_law_script", "_law_cell", "_law_source", "_law_gaps_here", "_law_tail_here", "_law_rule", "_law_offsets_here", "_law_last", "_law_repeat", "_law_low", "_law_high", "_law_one", "_law_wanted", "_law_offset", "_law_pairs_so", "_law_at", "_law_other", "_law_value", "_law_told"]) (sc := defScope s_law) (by decide +kernel)) (fun _ _ _ _ _ => (pg_name (i := 15) scLaw.nd rfl (Or.inl rfl))) (fun _ _ _ _ _ => pts_one (pt_cmpR (r := rIn K false) op_in_seq (pe_ix (r := rIxL K) ix_list (pv 12) (pv 15) (fun _ _ => rfl)) (pv 6) (by rfl)))
                (fun _ _ _ _ _ => (pe_tup (pa_cons (pv 15) (pa_cons (pe_bmK (K := K) (T := "list") rfl (pe_bm (r := rIndex K) PySem.F.plainAttrs_list PySem.F.slot_list_index PySem.F.type_list_index mt_index (pv 6) (pa_cons (pe_ix (r := rIxL K) ix_list (pv 12) (pv 15) (fun _ _ => rfl)) pa_nil))) pa_nil))))) (pss_cons (ps_set (i := 16) scLaw.nd rfl (Or.inl rfl) (pe_call GO hr2 rfl mO kO bO .nil pass0 (pa_cons (pv 2) (pa_cons (pe_op op_cat (pv 14) (pe_lst (pa_cons (pe_tup (pa_cons (pe_call GN hr1 rfl mN kN bN .nil pass0 (pa_cons (pv 2) (pa_cons (pe_op op_add (pv 7) pe_int) pa_nil))) (pa_cons (pv 7) pa_nil))) pa_nil))) pa_nil)))) (pss_one (ps_for PassesOwn.never rfl (pi_list (pe_lst (pa_cons (pe_tup (pa_cons (pv 11) (pa_cons (pv 16) pa_nil))) (pa_cons (pe_call GCh hr3 rfl mCh kCh bCh .nil pass0 (pa_cons (pv 2) (pa_cons (pe_tup (pa_cons (pv 11) (pa_cons (pv 16) pa_nil))) (pa_cons (pv 4) pa_nil)))) pa_nil)))) (pg_name (i := 17) scLaw.nd rfl (Or.inl rfl))
                (pss_cons (ps_set (i := 18) scLaw.nd rfl (Or.inl rfl) (pe_call GR hr7 rfl mR kR bR .nil pass0 (pa_cons (pv 5) (pa_cons (pv 17) pa_nil)))) (pss_one (ps_if (PW.pt (pw_or (pt_cmpR op_ne (pv 18) (pe_call GDue hr2 rfl mDue kDue bDue .nil pass0 (pa_cons (pv 6) (pa_cons (pv 17) pa_nil))) (nomark _)) (pw_or1 (pt_not (pt_val (pe_callB call_isi (by rfl) T.isi (by decide +kernel) (pa_cons (pv 18) (pa_cons (pe_bltn (v := .ty "bool") (by rfl) T.bool (by decide +kernel) rfl) pa_nil)))))))) (pss_one (ps_ret pe_bl)) pss_nil))))))))))))))))))) (pss_one (ps_ret pe_bl)))), ?_⟩
    refine ⟨rfl, fun H1 S1 => ⟨true, rfl, iteF ?_⟩⟩
    have hs := S1.seq hs
    clear S1
    -- the cells
    refine ⟨_, rfl, sc, ns, rfl, hs, (by show 1 ≤ sizeLine; decide), fun l1 hl1 => ?_⟩
    refine ⟨_, rfl, _, rfl, _, rfl, sc, _, rfl, (same_new hl1).seq hs, fun l2 hl2 => ?_⟩
    have hl1' := same_new (o := .lst (cutV (ns.map V.int) (some 1) (some 4))) hl2 _ _ (upd_same (H := H1) (a := l1) (o := .lst [V.int (ns.getD 0 0)]))
    refine ⟨l1, l2, _, _, rfl, rfl, hl1', upd_same, ?_, fun L hL => ?_⟩
    · have := cutV_length (ns.map V.int) (some 1) (some 4)
      rw [List.length_map] at this
      exact Nat.le_of_lt (small1000 (by show 1 + _ ≤ 1000; omega))
    have ecs : [V.int (ns.getD 0 0)] ++ cutV (ns.map V.int) (some 1) (some 4) = (cellsOf 4 ns).map V.int := by
      rw [show (some (1 : Int)) = some ((1 : Nat) : Int) from rfl, show (some (4 : Int)) = some ((4 : Nat) : Int) from rfl, cut_mid]
      unfold cellsOf
      rw [List.map_cons, List.map_take, List.map_drop]
      rfl
    rw [ecs]
    generalize cellsOf 4 ns = cs
    refine ⟨L, rfl, ⟨_, SqL.of upd_same⟩, for_list (a := L) (xs := cs.map V.int) (fun i σ H' => (∃ v1 v2 v3 v4 v5 v6 v7 v8 v9 v10 v11 v12 v13 v14 v15 v16 v17 v18, σ = [some (.ref sc), v1, v2, v3, v4, v5, v6, v7, v8, v9, v10, v11, v12, v13, v14, v15, v16, v17, v18]) ∧ H' L = some (.lst (cs.map V.int))) ⟨⟨_, _, _, _, _, _, _, _, _, _, _, _, _, _, _, _, _, _, rfl⟩, upd_same⟩ (fun i σ H' _ p => SqL.of p.2) ?_ (fun σ H' p => k H')⟩
    rintro i x σ H0 hx ⟨⟨v1, v2, v3, v4, v5, v6, v7, v8, v9, v10, v11, v12, v13, v14, v15, v16, v17, v18, rfl⟩, hL0⟩
    obtain ⟨c, _, rfl⟩ := map_of hx
    clear hx
    refine ⟨_, rfl, c, rfl, fun a H1 ha S1 R1 => ?_⟩
    have nLa : L ≠ a := ne_of_none hL0 ha
    have hL1 := S1 _ _ hL0
    refine ⟨_, rfl, a, 0, rfl, R1, by omega, fun g gs H2 nga hg okG kx2 R2 => ?_⟩
    have hL2 := kx2 _ _ nLa hL1
    refine ⟨_, rfl, _, rfl, (by show 3 ≤ sizeLine; decide), fun wl hwl => ?_⟩
    have sw := same_new (o := .lst [V.str "end", .str "times", .str "repeat"]) hwl
    refine ⟨a, g, wl, gs, ["end", "times", "repeat"], 0 + 40, rfl, R2.mono sw, by omega, nga, (R2.new hwl).symm, sw _ _ hg, okG, upd_same, ⟨by decide, by decide, ?_⟩, fun t tl H3 nta ht okT _ kx3 R3 => ?_⟩
    · intro z hz
      simpa using hz
    have hg3 := kx3 _ _ nga (sw _ _ hg)
    have hL3 := kx3 _ _ nLa (sw _ _ hL2)
    clear kx2 kx3 R1 R2 hL1 hL2 hL0 ha S1 hg sw hwl
    -- the rule
    refine ⟨_, rfl, _, rfl, fun p dx hp hdx _ => ?_⟩
    have Sm : Same H3 (upd (upd H3 dx (.own p)) p (.ins C dx [])) := made_same hp hdx
    refine ⟨p, dx, g, t, gs, tl, rfl, upd_same, Sm _ _ hg3, Sm _ _ ht, okG, okT, fun g2 o H4 hg2 ho kp R4 => ⟨rfl, ?_⟩⟩
    have S4 : Same H3 H4 := fun b u e => kp b u (Sm _ _ e) (ne_of_none e hp)
    have Ra := R3.mono Sm
    have B4 : LawAt C H4 a L g p g2 t o cs gs tl := by
      obtain ⟨s0, s1, s2, hsa, _⟩ := R3.ex
      exact ⟨R4, S4 _ _ hL3, S4 _ _ hg3, nLa, nga, (R3.new hp).symm, (Ra.new hg2).symm, nta, (Ra.new ho).symm⟩
    have R4s := R3.mono S4
    have ht4 := S4 _ _ ht
    clear hL3 R3 Sm hp hdx hg2 ho kp R4 S4 Ra nLa
    -- the offsets
    refine ⟨_, rfl, _, rfl, g, t, gs, tl, 60, rfl, by decide, by decide, B4.hg, ht4, okG, okT, fun ofs H5 hofs S5 hO => ?_⟩
    have A5 : LA C H5 a L g p g2 t o t ofs cs gs tl (manyC gs 60 tl) := ⟨B4.same S5, hO, (R4s.new hofs).symm, S5 _ _ ht4, nta⟩
    have R5 := R4s.mono S5
    have hn1 : 1 ≤ manyC gs 60 tl := by
      cases tl with
      | fin => show 1 ≤ min 60 (gs.length + 1); omega
      | times b => show 1 ≤ 60; decide
      | rep m => show 1 ≤ 60; decide
    have hn60 : manyC gs 60 tl ≤ 60 := by
      cases tl with
      | fin => show min 60 (gs.length + 1) ≤ 60; omega
      | times b => exact Nat.le_refl 60
      | rep m => exact Nat.le_refl 60
    clear B4 R4s ht4 hofs S5 hO ht hg3
    have hlen : ((offL gs tl (manyC gs 60 tl)).map V.int).length = manyC gs 60 tl := by rw [List.length_map, offL_len]
    refine ⟨_, rfl, ofs, _, rfl, .inl (SqL.of A5.hO), _, _, rfl, rfl, ?_⟩
    rw [hlen]
    have hrd : ∀ {d : PyData}, Tame (manyC gs 60 tl) tl d → isRepD gs tl d = dueD (offL gs tl (manyC gs 60 tl)) d := fun h => rep_due okG okT h
    generalize hn : manyC gs 60 tl = n at A5 hn1 hn60 hlen hrd ⊢
    have hol : (offL gs tl n).length = n := offL_len gs tl n
    generalize hos : offL gs tl n = os at hol hlen hrd
    have A5 : LA C H5 a L g p g2 t o t ofs cs gs tl n := A5
    refine ⟨12, rfl, by decide, by decide, for_range (lo := 0) (n := 12) (fun i σ H' => (∃ v8 v9 v10 v11 v12 v13 v14 v15 v16 v17 v18, σ = [some (.ref sc), some (.int c), some (.ref a), some (.ref g), some (.ref t), some (.ref p), some (.ref ofs), some (.int ((n : Int) - 1)), v8, v9, v10, v11, v12, v13, v14, v15, v16, v17, v18]) ∧ LA C H' a L g p g2 t o t ofs cs gs tl n ∧ Src H' a (50 + 8 * i)) ⟨⟨_, _, _, _, _, _, _, _, _, _, _, rfl⟩, A5, R5.le (by omega)⟩ ?_ ?_⟩
    · clear A5 R5
      rintro i σ H6 hi ⟨⟨v8, v9, v10, v11, v12, v13, v14, v15, v16, v17, v18, rfl⟩, A6, R6⟩
      have hO6 := A6.hO
      rw [hos] at hO6
      refine ⟨_, rfl, _, rfl, _, _, rfl, rfl, a, ((n : Int) - 1) + 1, 50 + 8 * i, rfl, R6, by omega, by omega, by omega, fun r1 H7 r10 r11 kx7 R7 => ?_⟩
      refine ⟨_, rfl, _, rfl, _, _, rfl, rfl, a, ((n : Int) - 1) + 1, 50 + 8 * i + 1, rfl, R7, by omega, by omega, by omega, fun r2 H8 r20 r21 kx8 R8 => ⟨(by show 2 ≤ sizeLine; decide), fun l hl => ?_⟩⟩
      have sl := same_new (o := .lst [V.int r1, .int r2]) hl
      refine ⟨l, [r1, r2], rfl, SqL.of upd_same, by show 2 < 64; decide, fun ns' pp hperm hsrt hpp => ?_⟩
      have sp := same_new (o := .lst (ns'.map V.int)) hpp
      obtain ⟨lo', hi', rfl, hle, e1, e2⟩ := sorted_two hperm hsrt
      obtain ⟨lo, rfl⟩ : ∃ lo : Nat, lo' = (lo : Int) := ⟨lo'.toNat, by omega⟩
      obtain ⟨hh, rfl⟩ : ∃ hh : Nat, hi' = (hh : Int) := ⟨hi'.toNat, by omega⟩
      have hlo : lo < n := by omega
      have hhh : hh < n := by omega
      have A9 := (((A6.kx kx7).kx kx8).same sl).same sp
      have R9 := (R8.mono sl).mono sp
      refine ⟨pp, _, rfl, SqL.of upd_same, rfl, _, _, rfl, _, _, rfl, rfl, ?_⟩
      generalize (upd (upd H8 l (.lst [V.int r1, .int r2])) pp (.lst (([(lo : Int), (hh : Int)] : List Int).map V.int))) = H9 at A9 R9 ⊢
      clear kx7 R7 kx8 R8 hl sl hpp sp hperm hsrt A6 R6 hO6 e1 e2
      -- one
      refine ⟨_, rfl, _, rfl, (by show 2 ≤ sizeLine; decide), fun q1 hq1 => ?_⟩
      have s10 := same_new (o := .tup [V.int (lo : Int), .int (hh : Int)]) hq1
      have nq1 : q1 ≠ a := (R9.new hq1).symm
      have A10 := A9.same s10
      have R10 := R9.mono s10
      have e1 := upd_same (H := H9) (a := q1) (o := .tup [V.int (lo : Int), .int (hh : Int)])
      generalize (upd H9 q1 (.tup [V.int (lo : Int), .int (hh : Int)])) = H10 at A10 R10 e1 ⊢
      clear A9 R9 s10 hq1
      have hO10 := A10.hO
      rw [hos] at hO10
      -- wanted
      refine ⟨_, rfl, ofs, rfl, ⟨_, SqL.of hO10⟩, fun D hD => lc_list (a := ofs) (xs := os.map V.int) (fun m H' => Same H10 H' ∧ H' D = some (.lst (((os.map fun z => z + os.getD hh 0 - os.getD lo 0).take m).map V.int))) ⟨same_new hD, upd_same⟩ (fun m H' _ p => SqL.of (p.1 _ _ hO10)) (fun m z H' hz p => ?_) (fun H11 p => ?_)⟩
      · obtain ⟨S, hd⟩ := p
        obtain ⟨zz, hzz, rfl⟩ := map_of hz
        have hm : m < os.length := (List.getElem?_eq_some_iff.mp hzz).1
        refine ⟨rfl, ?_⟩
        refine yes_t (iteT ?_)
        have hO' := S _ _ hO10
        refine ⟨_, rfl, _, rfl, _, rfl, ofs, _, _, _, rfl, rfl, SqL.of hO', at_map (getO (by omega)), _, _, rfl, rfl, _, rfl, _, rfl, ofs, _, _, _, rfl, rfl, SqL.of hO', at_map (getO (by omega)), _, _, rfl, rfl, _, hd, ?_, fun b u e => ?_, ?_⟩
        · rw [List.length_map, List.length_take]
          exact small1000 (by omega)
        · rw [upd_ne (ne_of_none e hD)]
          exact S b u e
        · rw [upd_same, List.take_add_one, List.getElem?_map, hzz, List.map_append]
          rfl
      obtain ⟨S11, hd11⟩ := p
      rw [List.length_map, ← List.length_map (f := fun z => z + os.getD hh 0 - os.getD lo 0), List.take_length] at hd11
      have A11 := A10.same S11
      have R11 := R10.mono S11
      have e1 := S11 _ _ e1
      have hO11 := S11 _ _ hO10
      clear A10 R10 S11 hO10 hD
      generalize hwv : (os.map fun z => z + os.getD hh 0 - os.getD lo 0) = wv at hd11
      have hwl : wv.length = n := by rw [← hwv, List.length_map, hol]
      -- pairs
      refine ⟨_, rfl, ofs, _, rfl, .inl (SqL.of hO11), _, rfl, by rw [hlen]; omega, by rw [hlen]; omega, fun G hG => ?_⟩
      have nGa := (R11.new hG).symm
      rw [hlen]
      refine lc_range (lo := 0) (n := n) (fun m H' => Same H11 H' ∧ ∃ ps : List V, H' G = some (.lst ps) ∧ ps.length ≤ m ∧ ∀ z ∈ ps, ∃ (q : Addr) (x y : Nat), z = .ref q ∧ q ≠ a ∧ x < n ∧ y < n ∧ H' q = some (.tup [.int (x : Int), .int (y : Int)])) ⟨same_new hG, [], upd_same, Nat.le_refl _, fun _ h => nomatch h⟩ (fun m H' hm p => ?_) (fun H' p => ?_)
      · obtain ⟨S, ps, hps, hpl, hpz⟩ := p
        have e0 : (0 : Int) + (m : Int) = ((m : Nat) : Int) := by omega
        refine ⟨rfl, ?_⟩
        rw [e0]
        have hd' := S _ _ hd11
        have hO' := S _ _ hO11
        refine ⟨_, rfl, _, rfl, D, _, _, _, rfl, rfl, SqL.of hd', at_map (getO (by omega)), _, rfl, ofs, _, rfl, .inl (SqL.of hO'), rfl, List.all_eq_true.mpr (fun z hz => by obtain ⟨y, _, rfl⟩ := List.mem_map.mp hz; rfl), _, rfl, ?_⟩
        have stay : Same H11 H' ∧ ∃ ps : List V, H' G = some (.lst ps) ∧ ps.length ≤ m + 1 ∧ ∀ z ∈ ps, ∃ (q : Addr) (x y : Nat), z = .ref q ∧ q ≠ a ∧ x < n ∧ y < n ∧ H' q = some (.tup [.int (x : Int), .int (y : Int)]) := ⟨S, ps, hps, by omega, hpz⟩
        show if inV (.int (wv.getD m 0)) (os.map V.int) = true then _ else _
        cases hin : inV (.int (wv.getD m 0)) (os.map V.int) with
        | false => exact iteF stay
        | true =>
          obtain ⟨j, hj, hjf⟩ := first_at (mem_of_inV hin)
          have hjl : j < os.length := (List.getElem?_eq_some_iff.mp hj).1
          refine iteT ?_
          refine ⟨_, rfl, _, rfl, .inl ⟨rfl, _, SqL.of hO'⟩, _, rfl, _, rfl, D, _, _, _, rfl, rfl, SqL.of hd', at_map (getO (by omega)), ofs, _, _, j, .int (wv.getD m 0), rfl, rfl, SqL.of hO', rfl, List.all_eq_true.mpr (fun z hz => by obtain ⟨y, _, rfl⟩ := List.mem_map.mp hz; rfl), ?_, ?_, ?_, (by show 2 ≤ sizeLine; decide), fun q hq => ?_⟩
          · rw [List.getElem?_map, hj]
            rfl
          · show ((wv.getD m 0) == (wv.getD m 0)) = true
            exact beq_self_eq_true _
          · intro m2 z' hm2 hz'
            obtain ⟨zz, hzz, rfl⟩ := map_of hz'
            show (zz == wv.getD m 0) = false
            exact beq_eq_false_iff_ne.mpr fun e => hjf m2 hm2 (by rw [hzz, e])
          · have sq := same_new (o := .tup [V.int (m : Int), .int (j : Int)]) hq
            have nGq : G ≠ q := ne_of_none hps hq
            have nqa : q ≠ a := ((R11.mono S).new hq).symm
            refine ⟨ps, sq _ _ hps, small1000 (by omega), fun b u e => ?_, ps ++ [.ref q], upd_same, ?_, ?_⟩
            · rw [upd_ne (ne_of_none e hG)]
              exact sq _ _ (S b u e)
            · rw [List.length_append]
              show ps.length + 1 ≤ _
              omega
            · intro z hz
              rcases List.mem_append.mp hz with hz | hz
              · obtain ⟨q2, x2, y2, rfl, n2, l1, l2, e2⟩ := hpz z hz
                refine ⟨q2, x2, y2, rfl, n2, l1, l2, ?_⟩
                rw [upd_ne (ne_of e2 hps (by intro z; cases z))]
                exact sq _ _ e2
              · obtain rfl := List.mem_singleton.mp hz
                refine ⟨q, m, j, rfl, nqa, hm, by omega, ?_⟩
                rw [upd_ne nGq.symm]
                exact upd_same
      obtain ⟨S12, ps, hps, hpl, hpz⟩ := p
      have A12 := A11.same S12
      have R12 := R11.mono S12
      have e1 := S12 _ _ e1
      clear A11 R11 S12 hd11 hO11 hG hwl hwv wv
      rename_i H12
      -- other
      refine ⟨_, rfl, _, rfl, _, rfl, _, rfl, _, _, rfl, rfl, a, ((n : Int) - 1) + 1, 50 + 8 * i + 2, rfl, R12, by omega, by omega, by omega, fun r H13 r0 r1 kx13 R13 => ?_⟩
      obtain ⟨x, rfl⟩ : ∃ x : Nat, r = (x : Int) := ⟨r.toNat, by omega⟩
      have ey : ((n : Int) - 1) = ((n - 1 : Nat) : Int) := by omega
      have A13 := A12.kx kx13
      have e1 := kx13 _ _ nq1 e1
      have hps13 := kx13 _ _ nGa hps
      refine ⟨_, rfl, (by show 2 ≤ sizeLine; decide), fun q hq => ⟨(by show 1 ≤ sizeLine; decide), fun l hl => ?_⟩⟩
      have sq := same_new (o := .tup [V.int (x : Int), .int ((n : Int) - 1)]) hq
      have sl := same_new (o := .lst [V.ref q]) hl
      have nqa : q ≠ a := (R13.new hq).symm
      have R15 := (R13.mono sq).mono sl
      have A15 := (A13.same sq).same sl
      have e1 := sl _ _ (sq _ _ e1)
      have hps15 := sl _ _ (sq _ _ hps13)
      have eq := sl _ _ (upd_same (H := H13) (a := q) (o := .tup [V.int (x : Int), .int ((n : Int) - 1)]))
      have el := upd_same (H := upd H13 q (.tup [V.int (x : Int), .int ((n : Int) - 1)])) (a := l) (o := .lst [V.ref q])
      have hpz15 : ∀ z ∈ ps ++ [V.ref q], ∃ (q2 : Addr) (x3 y3 : Nat), z = .ref q2 ∧ q2 ≠ a ∧ x3 < n ∧ y3 < n ∧ (upd (upd H13 q (.tup [V.int (x : Int), .int ((n : Int) - 1)])) l (.lst [V.ref q])) q2 = some (.tup [.int (x3 : Int), .int (y3 : Int)]) := by
        intro z hz
        rcases List.mem_append.mp hz with hz | hz
        · obtain ⟨q2, x2, y2, rfl, n2, l1, l2, e2⟩ := hpz z hz
          exact ⟨q2, x2, y2, rfl, n2, l1, l2, sl _ _ (sq _ _ (kx13 _ _ n2 e2))⟩
        · obtain rfl := List.mem_singleton.mp hz
          refine ⟨q, x, n - 1, rfl, nqa, by omega, by omega, ?_⟩
          rw [← ey]
          exact eq
      generalize (upd (upd H13 q (.tup [V.int (x : Int), .int ((n : Int) - 1)])) l (.lst [V.ref q])) = H15 at R15 A15 e1 hps15 eq el hpz15 ⊢
      clear R13 A13 kx13 hps13 sq sl hq hl A12 R12 hps hpz eq nqa r0 r1 ey
      refine ⟨G, l, _, _, rfl, rfl, hps15, el, Nat.le_of_lt (small1000 (by show ps.length + 1 ≤ 1000; omega)), fun M hM => ?_⟩
      have sM := same_new (o := .lst (ps ++ [V.ref q])) hM
      refine ⟨a, M, ps ++ [V.ref q], 50 + 8 * i + 3, rfl, R15.mono sM, by omega, (R15.new hM).symm, upd_same, by rw [List.length_append]; show 0 < _ + 1; omega, by rw [List.length_append]; show _ + 1 < 1000; omega, fun z H16 hz kx16 R16 => ?_⟩
      obtain ⟨q2, x2, y2, rfl, nq2, hx2, hy2, e2⟩ := hpz15 z hz
      have e2 := kx16 _ _ nq2 (sM _ _ e2)
      have e1 := kx16 _ _ nq1 (sM _ _ e1)
      have A16 := (A15.same sM).kx kx16
      clear A15 R15 hpz15 hz kx16 sM hM hps15 el
      -- the two values
      refine ⟨_, rfl, _, rfl, (by show 2 ≤ sizeLine; decide), fun w1 hw1 => ?_⟩
      have s17 := same_new (o := .tup [V.ref q1, .ref q2]) hw1
      refine ⟨_, rfl, _, rfl, _, rfl, (by show 2 ≤ sizeLine; decide), fun w2 hw2 => ?_⟩
      have s18 := same_new (o := .tup [V.ref q1, .ref q2]) hw2
      have s178 := s17.trans s18
      have nw1 := (R16.new hw1).symm
      have o1 : OneOk a n tl (upd (upd H16 w1 (.tup [V.ref q1, .ref q2])) w2 (.tup [V.ref q1, .ref q2])) (.ref w1) :=
        ⟨_, .tup nw1 (s18 _ _ upd_same) (.cons (.tup nq1 (s178 _ _ e1) (.cons (.int _) (.cons (.int _) .nil))) (.cons (.tup nq2 (s178 _ _ e2) (.cons (.int _) (.cons (.int _) .nil))) .nil)), tame_two (te_nat hlo) (te_nat hhh) (te_nat hx2) (te_nat hy2)⟩
      have A18 := A16.same s178
      refine ⟨_, rfl, a, w2, q1, q2, t, lo, hh, x2, y2, n, 50 + 8 * i + 4, tl, rfl, R16.mono s178, by omega, upd_same, s178 _ _ e1, s178 _ _ e2, A18.hT, nq1, nq2, hlo, hhh, hx2, hy2, fun v d H19 hv htm kx19 R19 => ?_⟩
      have A19 := A18.kx kx19
      have o1 : OneOk a n tl H19 (.ref w1) := by
        obtain ⟨d1, h1, h2⟩ := o1
        exact ⟨d1, h1.kx' kx19, h2⟩
      have o2 : OneOk a n tl H19 v := ⟨d, hv, htm⟩
      clear A16 R16 s17 s18 s178 hw1 hw2 nw1 e1 e2 A18 kx19 hv htm
      refine ⟨(by show 2 ≤ sizeLine; decide), fun V2 hV2 => ?_⟩
      have s20 := same_new (o := .lst [V.ref w1, v]) hV2
      refine ⟨V2, rfl, ⟨_, SqL.of upd_same⟩, for_list (a := V2) (xs := [V.ref w1, v]) (fun m σ H' => (∃ v17 v18, σ = [some (.ref sc), some (.int c), some (.ref a), some (.ref g), some (.ref t), some (.ref p), some (.ref ofs), some (.int ((n : Int) - 1)), some (.int ((0 : Int) + i)), some (.int (lo : Int)), some (.int (hh : Int)), some (.ref q1), some (.ref D), v13, some (.ref G), v15, some (.ref q2), v17, v18]) ∧ Same H19 H' ∧ H' V2 = some (.lst [V.ref w1, v])) ⟨⟨_, _, rfl⟩, s20, upd_same⟩ (fun m σ H' _ p => SqL.of p.2.2) ?_ ?_⟩
      · rintro m z σ H' hz ⟨⟨v17, v18, rfl⟩, S, hV⟩
        have hz2 : OneOk a n tl H' z := by
          have hm : m < 2 := (List.getElem?_eq_some_iff.mp hz).1
          have : m = 0 ∨ m = 1 := by omega
          rcases this with rfl | rfl
          · have : z = .ref w1 := by simpa using hz.symm
            subst this
            exact o1.same S
          · have : z = v := by simpa using hz.symm
            subst this
            exact o2.same S
        obtain ⟨d, hd, htm⟩ := hz2
        have A' := A19.same S
        refine ⟨_, rfl, _, rfl, p, g2, t, o, a, gs, tl, z, d, rfl, A'.B.R, hd, fun H2 S2 => ?_⟩
        have hO2 := S2 _ _ A'.hO
        rw [hos] at hO2
        refine ⟨_, rfl, _, rfl, _, rfl, a, ofs, os, z, d, rfl, hO2, by omega, hd.same' S2, fun H3 S3 => ⟨rfl, _, rfl, iteFb ?_ ?_⟩⟩
        · rw [hrd htm]
          show (!decide (V.bl _ = V.bl _)) = false
          rw [decide_eq_true rfl]
          rfl
        · refine ⟨_, rfl, _, _, _, _, _, rfl, .ty _, .base (.bl _), kit_ty (r := true) (by decide +kernel), true, rfl, iteF ?_⟩
          exact ⟨⟨_, _, rfl⟩, (S.trans S2).trans S3, S3 _ _ (S2 _ _ hV)⟩
      · rintro σ H' ⟨⟨v17, v18, rfl⟩, S, _⟩
        exact ⟨⟨_, _, _, _, _, _, _, _, _, _, _, rfl⟩, A19.same S, (R19.mono S).le (by omega)⟩
    · rintro σ H6 ⟨⟨v8, v9, v10, v11, v12, v13, v14, v15, v16, v17, v18, rfl⟩, A6, R6⟩
      exact ⟨⟨_, _, _, _, _, _, _, _, _, _, _, _, _, _, _, _, _, _, rfl⟩, A6.B.hL⟩
end
end RS
namespace L2
open PySem PySem.Spec PyProof.Rows
theorem exm_any2 {K : PySem.W.Frag} {c x y : Value} {b1 b2 : Bool} (h1 : PySem.W.exmOne K c x = some b1) (h2 : PySem.W.exmOne K c y = some b2) : PySem.W.exmAny K c [x, y] = some (b1 || (b2 || false)) := by
  have e : PySem.W.exmAny K c [y] = some (b2 || false) := by
    show (match PySem.W.exmOne K c y, PySem.W.exmAny K c [] with | some b, some d => some (b || d) | _, _ => none) = _
    rw [h2] <;> rfl
  show (match PySem.W.exmOne K c x, PySem.W.exmAny K c [y] with | some b, some d => some (b || d) | _, _ => none) = _
  rw [h1, e] <;> rfl
end L2
namespace RS
open PySem L2
open PySem.W (fnOf)
theorem et_InvalidAttempt {K : PySem.W.Frag} {h : Heap} {mg : Str → Option Value} {C f N R : Addr} (X : K.In h) (G : h.Ns mainGlobals mg)
    {nm q : Str} {bs : List Value} {sn : List Str} {sub : List Value} {ab : Bool} {col : Option Bool} {dd : Option Addr} {m0 m1 m2 m3 m5 : Option Value} {od an : Option Addr} {sl : Array (Option Value)} {oc dc pm cd ct : Value}
    (aC : PySem.W.nsIn K mainGlobals "InvalidAttempt" = some (some (.ref C)))
    (xL : K.lookup C = some (excClassObj nm q C N bs [.ref R, .type "ArithmeticError", .type "Exception", .type "BaseException", .type "object"] true sn sub ab col dd m0 m1 m2 m3 m5 "ArithmeticError.__new__"))
    (sa : PySem.W.findIn K (.ref C) "__setattr__" = some (some (.builtin "object.__setattr__")))
    (ga : PySem.W.findIn K (.ref C) "__getattribute__" = some (some (.builtin "BaseException.__getattribute__")))
    (gg : PySem.W.findIn K (.ref C) "__getattr__" = some none)
    (n0 : PySem.W.findIn K (.ref C) "attempt" = some none)
    (ov : PySem.W.excOver K C [.type "ArithmeticError", .type "Exception", .type "BaseException", .type "object"] = true)
    (k0 : PySem.W.takerIn K C "attempt" = some none)
    (a1 : PySem.W.findIn K (.ref C) "__init__" = some (some (.ref f)))
    (t1 : PySem.W.typeIn K (.ref f) = some (.type "function"))
    (l1 : K.lookup f = some ⟨oc, od, .func (PySem.W.fnOf "__init__" "InvalidAttempt.__init__" (defArgs s_InvalidAttempt_ddinitdd) (defBody s_InvalidAttempt_ddinitdd) (defScope s_InvalidAttempt_ddinitdd) .none .none dc pm an cd ct), sl⟩) (c1 : PySem.W.codeIn K cd "InvalidAttempt.__init__" = true)
    (kC : PySem.W.keepIn K (.ref C) = true) (eC : PySem.W.subIn K (.ref C) (.type "BaseException") = some true) (tC : PySem.W.typeIn K (.ref C) = some (.type "type")) (hC : PySem.W.hasDictIn K C = true)
    (ca : PySem.W.findIn K (.ref C) "__class__" = some (some (.builtin "object.__class__"))) (cn : PySem.W.specialIn K (.builtin "object.__class__") "__get__" = some (some (.builtin "getset_descriptor.__get__"))) (ct2 : PySem.W.takesIn K (.builtin "object.__class__") = some true) (cm : PySem.W.mroIn K C (.type "object") = some true) :
    ErX.ErTxt K mg "InvalidAttempt" "InvalidAttempt.__init__" "attempt" C f ∧ ErCls K C := by
  refine ⟨⟨PySem.W.mg_of X G aC, ⟨_, _, _, _, _, _, _, _, _, _, _, _, _, _, _, xL, fun X => ?_⟩, sa, ga, gg, n0, ov, k0, a1, t1, kC, eC, tC, hC, ⟨oc, od, dc, pm, an, cd, ct, sl, _, _, _, _, _, _, l1, c1⟩, (by intros; (first | rfl | decide | with_unfolding_all rfl | kernel_rfl)), (by intros; (first | rfl | decide | with_unfolding_all rfl | kernel_rfl)), (by intros; (first | rfl | decide | with_unfolding_all rfl | kernel_rfl)), (by intros; (first | rfl | decide | with_unfolding_all rfl | kernel_rfl)), (by intros; (first | rfl | decide | with_unfolding_all rfl | kernel_rfl)), (by intros; (first | rfl | decide | with_unfolding_all rfl | kernel_rfl)), (by intros; (first | rfl | decide | with_unfolding_all rfl | kernel_rfl))⟩, ⟨?_, ga, gg, eC, hC, ca, cn, ct2, cm⟩⟩
  · rw [List.contains_cons]
    rfl
  · unfold PySem.W.clsIn
    rw [xL] <;> rfl
theorem et_LimitExceeded {K : PySem.W.Frag} {h : Heap} {mg : Str → Option Value} {C f N R : Addr} (X : K.In h) (G : h.Ns mainGlobals mg)
    {nm q : Str} {bs : List Value} {sn : List Str} {sub : List Value} {ab : Bool} {col : Option Bool} {dd : Option Addr} {m0 m1 m2 m3 m5 : Option Value} {od an : Option Addr} {sl : Array (Option Value)} {oc dc pm cd ct : Value}
    (aC : PySem.W.nsIn K mainGlobals "LimitExceeded" = some (some (.ref C)))
    (xL : K.lookup C = some (excClassObj nm q C N bs [.ref R, .type "ArithmeticError", .type "Exception", .type "BaseException", .type "object"] true sn sub ab col dd m0 m1 m2 m3 m5 "ArithmeticError.__new__"))
    (sa : PySem.W.findIn K (.ref C) "__setattr__" = some (some (.builtin "object.__setattr__")))
    (ga : PySem.W.findIn K (.ref C) "__getattribute__" = some (some (.builtin "BaseException.__getattribute__")))
    (gg : PySem.W.findIn K (.ref C) "__getattr__" = some none)
    (n0 : PySem.W.findIn K (.ref C) "limit" = some none)
    (ov : PySem.W.excOver K C [.type "ArithmeticError", .type "Exception", .type "BaseException", .type "object"] = true)
    (k0 : PySem.W.takerIn K C "limit" = some none)
    (a1 : PySem.W.findIn K (.ref C) "__init__" = some (some (.ref f)))
    (t1 : PySem.W.typeIn K (.ref f) = some (.type "function"))
    (l1 : K.lookup f = some ⟨oc, od, .func (PySem.W.fnOf "__init__" "LimitExceeded.__init__" (defArgs s_LimitExceeded_ddinitdd) (defBody s_LimitExceeded_ddinitdd) (defScope s_LimitExceeded_ddinitdd) .none .none dc pm an cd ct), sl⟩) (c1 : PySem.W.codeIn K cd "LimitExceeded.__init__" = true)
    (kC : PySem.W.keepIn K (.ref C) = true) (eC : PySem.W.subIn K (.ref C) (.type "BaseException") = some true) (tC : PySem.W.typeIn K (.ref C) = some (.type "type")) (hC : PySem.W.hasDictIn K C = true)
    (ca : PySem.W.findIn K (.ref C) "__class__" = some (some (.builtin "object.__class__"))) (cn : PySem.W.specialIn K (.builtin "object.__class__") "__get__" = some (some (.builtin "getset_descriptor.__get__"))) (ct2 : PySem.W.takesIn K (.builtin "object.__class__") = some true) (cm : PySem.W.mroIn K C (.type "object") = some true) :
    ErX.ErTxt K mg "LimitExceeded" "LimitExceeded.__init__" "limit" C f ∧ ErCls K C := by
  refine ⟨⟨PySem.W.mg_of X G aC, ⟨_, _, _, _, _, _, _, _, _, _, _, _, _, _, _, xL, fun X => ?_⟩, sa, ga, gg, n0, ov, k0, a1, t1, kC, eC, tC, hC, ⟨oc, od, dc, pm, an, cd, ct, sl, _, _, _, _, _, _, l1, c1⟩, (by intros; (first | rfl | decide | with_unfolding_all rfl | kernel_rfl)), (by intros; (first | rfl | decide | with_unfolding_all rfl | kernel_rfl)), (by intros; (first | rfl | decide | with_unfolding_all rfl | kernel_rfl)), (by intros; (first | rfl | decide | with_unfolding_all rfl | kernel_rfl)), (by intros; (first | rfl | decide | with_unfolding_all rfl | kernel_rfl)), (by intros; (first | rfl | decide | with_unfolding_all rfl | kernel_rfl)), (by intros; (first | rfl | decide | with_unfolding_all rfl | kernel_rfl))⟩, ⟨?_, ga, gg, eC, hC, ca, cn, ct2, cm⟩⟩
  · rw [List.contains_cons]
    rfl
  · unfold PySem.W.clsIn
    rw [xL] <;> rfl
end RS
namespace RS
open PySem L2
/-! ### what the top has written -/
theorem all_mk {l : PySem.W.OpenLaw} {w : World} {K : PySem.W.Frag} {h : Heap} {mg : Str → Option Value} {fa C : Addr} (X : K.In h) (G : h.Ns mainGlobals mg) (hfa : mg "law" = some (.ref fa)) (hlong : ∃ t, mg "_LONGEST_GAP" = some (.int 1000000000000 t))
    {tM tF tL : Tok}
    {fa0 : Addr} {oda0 ana0 : Option Addr} {sla0 : Array (Option Value)} {oca0 kVa0 dca0 pma0 cda0 cta0 : Value}
    {fa1 : Addr} {oda1 ana1 : Option Addr} {sla1 : Array (Option Value)} {oca1 kVa1 dca1 pma1 cda1 cta1 : Value}
    {fa2 : Addr} {oda2 ana2 : Option Addr} {sla2 : Array (Option Value)} {oca2 kVa2 dca2 pma2 cda2 cta2 : Value}
    {fa3 : Addr} {oda3 ana3 : Option Addr} {sla3 : Array (Option Value)} {oca3 kVa3 dca3 pma3 cda3 cta3 : Value}
    {fa4 : Addr} {oda4 ana4 : Option Addr} {sla4 : Array (Option Value)} {oca4 kVa4 dca4 pma4 cda4 cta4 : Value}
    {fa5 : Addr} {oda5 ana5 : Option Addr} {sla5 : Array (Option Value)} {oca5 kVa5 dca5 pma5 cda5 cta5 : Value}
    {fa6 : Addr} {oda6 ana6 : Option Addr} {sla6 : Array (Option Value)} {oca6 kVa6 dca6 pma6 cda6 cta6 : Value}
    {fa7 : Addr} {oda7 ana7 : Option Addr} {sla7 : Array (Option Value)} {oca7 kVa7 dca7 pma7 cda7 cta7 : Value}
    {fa8 : Addr} {oda8 ana8 : Option Addr} {sla8 : Array (Option Value)} {oca8 kVa8 dca8 pma8 cda8 cta8 : Value}
    {fa9 : Addr} {oda9 ana9 : Option Addr} {sla9 : Array (Option Value)} {oca9 kVa9 dca9 pma9 cda9 cta9 : Value}
    {fa10 : Addr} {oda10 ana10 : Option Addr} {sla10 : Array (Option Value)} {oca10 kVa10 dca10 pma10 cda10 cta10 : Value}
    {fa11 : Addr} {oda11 ana11 : Option Addr} {sla11 : Array (Option Value)} {oca11 kVa11 dca11 pma11 cda11 cta11 : Value}
    {fa12 : Addr} {oda12 ana12 : Option Addr} {sla12 : Array (Option Value)} {oca12 kVa12 dca12 pma12 cda12 cta12 : Value}
    {fa13 : Addr} {oda13 ana13 : Option Addr} {sla13 : Array (Option Value)} {oca13 kVa13 dca13 pma13 cda13 cta13 : Value}
    {fa14 : Addr} {oda14 ana14 : Option Addr} {sla14 : Array (Option Value)} {oca14 kVa14 dca14 pma14 cda14 cta14 : Value}
    {fa15 : Addr} {oda15 ana15 : Option Addr} {sla15 : Array (Option Value)} {oca15 kVa15 dca15 pma15 cda15 cta15 : Value}
    {fa16 : Addr} {oda16 ana16 : Option Addr} {sla16 : Array (Option Value)} {oca16 kVa16 dca16 pma16 cda16 cta16 : Value}
    {fa17 : Addr} {oda17 ana17 : Option Addr} {sla17 : Array (Option Value)} {oca17 kVa17 dca17 pma17 cda17 cta17 : Value}
    {fa18 : Addr} {oda18 ana18 : Option Addr} {sla18 : Array (Option Value)} {oca18 kVa18 dca18 pma18 cda18 cta18 : Value}
    {fa19 : Addr} {oda19 ana19 : Option Addr} {sla19 : Array (Option Value)} {oca19 kVa19 dca19 pma19 cda19 cta19 : Value}
    {fm0 : Addr} {odm0 anm0 : Option Addr} {slm0 : Array (Option Value)} {ocm0 kVm0 dcm0 pmm0 cdm0 ctm0 : Value}
    {fm1 : Addr} {odm1 anm1 : Option Addr} {slm1 : Array (Option Value)} {ocm1 kVm1 dcm1 pmm1 cdm1 ctm1 : Value}
    {fm2 : Addr} {odm2 anm2 : Option Addr} {slm2 : Array (Option Value)} {ocm2 kVm2 dcm2 pmm2 cdm2 ctm2 : Value}
    {fm3 : Addr} {odm3 anm3 : Option Addr} {slm3 : Array (Option Value)} {ocm3 kVm3 dcm3 pmm3 cdm3 ctm3 : Value}
    {fm4 : Addr} {odm4 anm4 : Option Addr} {slm4 : Array (Option Value)} {ocm4 kVm4 dcm4 pmm4 cdm4 ctm4 : Value}
    {fm5 : Addr} {odm5 anm5 : Option Addr} {slm5 : Array (Option Value)} {ocm5 kVm5 dcm5 pmm5 cdm5 ctm5 : Value}
    {fz : Addr} {odz anz : Option Addr} {slz : Array (Option Value)} {ocz kVz dcz pmz cdz ctz : Value}
    {R : Addr}
    {C_e0 f_e0 N_e0 : Addr} {nm_e0 q_e0 : Str} {bs_e0 : List Value} {sn_e0 : List Str} {sub_e0 : List Value} {ab_e0 : Bool} {col_e0 : Option Bool} {dd_e0 : Option Addr} {m0_e0 m1_e0 m2_e0 m3_e0 m5_e0 : Option Value} {od_e0 an_e0 : Option Addr} {sl_e0 : Array (Option Value)} {oc_e0 dc_e0 pm_e0 cd_e0 ct_e0 : Value}
    {C_e1 f_e1 N_e1 : Addr} {nm_e1 q_e1 : Str} {bs_e1 : List Value} {sn_e1 : List Str} {sub_e1 : List Value} {ab_e1 : Bool} {col_e1 : Option Bool} {dd_e1 : Option Addr} {m0_e1 m1_e1 m2_e1 m3_e1 m5_e1 : Option Value} {od_e1 an_e1 : Option Addr} {sl_e1 : Array (Option Value)} {oc_e1 dc_e1 pm_e1 cd_e1 ct_e1 : Value}
    (Aa0 : PySem.W.nsIn K mainGlobals "is_integer" = some (some (.ref fa0)))
    (La0 : K.lookup fa0 = some ⟨oca0, oda0, .func (PySem.W.fnOf "is_integer" "is_integer" (defArgs s_is_integer) (defBody s_is_integer) (defScope s_is_integer) .none kVa0 dca0 pma0 ana0 cda0 cta0), sla0⟩) (Ca0 : PySem.W.codeIn K cda0 "is_integer" = true) (Ka0 : PySem.W.keepIn K (.ref fa0) = true)
    (Aa1 : PySem.W.nsIn K mainGlobals "are_gaps" = some (some (.ref fa1)))
    (La1 : K.lookup fa1 = some ⟨oca1, oda1, .func (PySem.W.fnOf "are_gaps" "are_gaps" (defArgs s_are_gaps) (defBody s_are_gaps) (defScope s_are_gaps) .none kVa1 dca1 pma1 ana1 cda1 cta1), sla1⟩) (Ca1 : PySem.W.codeIn K cda1 "are_gaps" = true) (Ka1 : PySem.W.keepIn K (.ref fa1) = true)
    (Aa2 : PySem.W.nsIn K mainGlobals "_is_tail" = some (some (.ref fa2)))
    (La2 : K.lookup fa2 = some ⟨oca2, oda2, .func (PySem.W.fnOf "_is_tail" "_is_tail" (defArgs s_is_tail) (defBody s_is_tail) (defScope s_is_tail) .none kVa2 dca2 pma2 ana2 cda2 cta2), sla2⟩) (Ca2 : PySem.W.codeIn K cda2 "_is_tail" = true) (Ka2 : PySem.W.keepIn K (.ref fa2) = true)
    (Aa3 : PySem.W.nsIn K mainGlobals "sums" = some (some (.ref fa3)))
    (La3 : K.lookup fa3 = some ⟨oca3, oda3, .func (PySem.W.fnOf "sums" "sums" (defArgs s_sums) (defBody s_sums) (defScope s_sums) .none kVa3 dca3 pma3 ana3 cda3 cta3), sla3⟩) (Ca3 : PySem.W.codeIn K cda3 "sums" = true) (Ka3 : PySem.W.keepIn K (.ref fa3) = true)
    (Aa4 : PySem.W.nsIn K mainGlobals "_power" = some (some (.ref fa4)))
    (La4 : K.lookup fa4 = some ⟨oca4, oda4, .func (PySem.W.fnOf "_power" "_power" (defArgs s_power) (defBody s_power) (defScope s_power) .none kVa4 dca4 pma4 ana4 cda4 cta4), sla4⟩) (Ca4 : PySem.W.codeIn K cda4 "_power" = true) (Ka4 : PySem.W.keepIn K (.ref fa4) = true)
    (Aa5 : PySem.W.nsIn K mainGlobals "is_repetition" = some (some (.ref fa5)))
    (La5 : K.lookup fa5 = some ⟨oca5, oda5, .func (PySem.W.fnOf "is_repetition" "is_repetition" (defArgs s_is_repetition) (defBody s_is_repetition) (defScope s_is_repetition) .none kVa5 dca5 pma5 ana5 cda5 cta5), sla5⟩) (Ca5 : PySem.W.codeIn K cda5 "is_repetition" = true) (Ka5 : PySem.W.keepIn K (.ref fa5) = true)
    (Aa6 : PySem.W.nsIn K mainGlobals "_is_pair" = some (some (.ref fa6)))
    (La6 : K.lookup fa6 = some ⟨oca6, oda6, .func (PySem.W.fnOf "_is_pair" "_is_pair" (defArgs s_is_pair) (defBody s_is_pair) (defScope s_is_pair) .none kVa6 dca6 pma6 ana6 cda6 cta6), sla6⟩) (Ca6 : PySem.W.codeIn K cda6 "_is_pair" = true) (Ka6 : PySem.W.keepIn K (.ref fa6) = true)
    (Aa7 : PySem.W.nsIn K mainGlobals "_is_attempt" = some (some (.ref fa7)))
    (La7 : K.lookup fa7 = some ⟨oca7, oda7, .func (PySem.W.fnOf "_is_attempt" "_is_attempt" (defArgs s_is_attempt) (defBody s_is_attempt) (defScope s_is_attempt) .none kVa7 dca7 pma7 ana7 cda7 cta7), sla7⟩) (Ca7 : PySem.W.codeIn K cda7 "_is_attempt" = true) (Ka7 : PySem.W.keepIn K (.ref fa7) = true)
    (Aa8 : PySem.W.nsIn K mainGlobals "_difference" = some (some (.ref fa8)))
    (La8 : K.lookup fa8 = some ⟨oca8, oda8, .func (PySem.W.fnOf "_difference" "_difference" (defArgs s_difference) (defBody s_difference) (defScope s_difference) .none kVa8 dca8 pma8 ana8 cda8 cta8), sla8⟩) (Ca8 : PySem.W.codeIn K cda8 "_difference" = true) (Ka8 : PySem.W.keepIn K (.ref fa8) = true)
    (Aa9 : PySem.W.nsIn K mainGlobals "_law_source_of" = some (some (.ref fa9)))
    (La9 : K.lookup fa9 = some ⟨oca9, oda9, .func (PySem.W.fnOf "_law_source_of" "_law_source_of" (defArgs s_law_source_of) (defBody s_law_source_of) (defScope s_law_source_of) .none kVa9 dca9 pma9 ana9 cda9 cta9), sla9⟩) (Ca9 : PySem.W.codeIn K cda9 "_law_source_of" = true) (Ka9 : PySem.W.keepIn K (.ref fa9) = true)
    (Aa10 : PySem.W.nsIn K mainGlobals "_law_draw" = some (some (.ref fa10)))
    (La10 : K.lookup fa10 = some ⟨oca10, oda10, .func (PySem.W.fnOf "_law_draw" "_law_draw" (defArgs s_law_draw) (defBody s_law_draw) (defScope s_law_draw) .none kVa10 dca10 pma10 ana10 cda10 cta10), sla10⟩) (Ca10 : PySem.W.codeIn K cda10 "_law_draw" = true) (Ka10 : PySem.W.keepIn K (.ref fa10) = true)
    (Aa11 : PySem.W.nsIn K mainGlobals "_law_choice" = some (some (.ref fa11)))
    (La11 : K.lookup fa11 = some ⟨oca11, oda11, .func (PySem.W.fnOf "_law_choice" "_law_choice" (defArgs s_law_choice) (defBody s_law_choice) (defScope s_law_choice) .none kVa11 dca11 pma11 ana11 cda11 cta11), sla11⟩) (Ca11 : PySem.W.codeIn K cda11 "_law_choice" = true) (Ka11 : PySem.W.keepIn K (.ref fa11) = true)
    (Aa12 : PySem.W.nsIn K mainGlobals "_law_cell_at" = some (some (.ref fa12)))
    (La12 : K.lookup fa12 = some ⟨oca12, oda12, .func (PySem.W.fnOf "_law_cell_at" "_law_cell_at" (defArgs s_law_cell_at) (defBody s_law_cell_at) (defScope s_law_cell_at) .none kVa12 dca12 pma12 ana12 cda12 cta12), sla12⟩) (Ca12 : PySem.W.codeIn K cda12 "_law_cell_at" = true) (Ka12 : PySem.W.keepIn K (.ref fa12) = true)
    (Aa13 : PySem.W.nsIn K mainGlobals "_law_gaps" = some (some (.ref fa13)))
    (La13 : K.lookup fa13 = some ⟨oca13, oda13, .func (PySem.W.fnOf "_law_gaps" "_law_gaps" (defArgs s_law_gaps) (defBody s_law_gaps) (defScope s_law_gaps) .none kVa13 dca13 pma13 ana13 cda13 cta13), sla13⟩) (Ca13 : PySem.W.codeIn K cda13 "_law_gaps" = true) (Ka13 : PySem.W.keepIn K (.ref fa13) = true)
    (Aa14 : PySem.W.nsIn K mainGlobals "_law_tail" = some (some (.ref fa14)))
    (La14 : K.lookup fa14 = some ⟨oca14, oda14, .func (PySem.W.fnOf "_law_tail" "_law_tail" (defArgs s_law_tail) (defBody s_law_tail) (defScope s_law_tail) .none kVa14 dca14 pma14 ana14 cda14 cta14), sla14⟩) (Ca14 : PySem.W.codeIn K cda14 "_law_tail" = true) (Ka14 : PySem.W.keepIn K (.ref fa14) = true)
    (Aa15 : PySem.W.nsIn K mainGlobals "_law_offsets" = some (some (.ref fa15)))
    (La15 : K.lookup fa15 = some ⟨oca15, oda15, .func (PySem.W.fnOf "_law_offsets" "_law_offsets" (defArgs s_law_offsets) (defBody s_law_offsets) (defScope s_law_offsets) .none kVa15 dca15 pma15 ana15 cda15 cta15), sla15⟩) (Ca15 : PySem.W.codeIn K cda15 "_law_offsets" = true) (Ka15 : PySem.W.keepIn K (.ref fa15) = true)
    (Aa16 : PySem.W.nsIn K mainGlobals "_law_changed" = some (some (.ref fa16)))
    (La16 : K.lookup fa16 = some ⟨oca16, oda16, .func (PySem.W.fnOf "_law_changed" "_law_changed" (defArgs s_law_changed) (defBody s_law_changed) (defScope s_law_changed) .none kVa16 dca16 pma16 ana16 cda16 cta16), sla16⟩) (Ca16 : PySem.W.codeIn K cda16 "_law_changed" = true) (Ka16 : PySem.W.keepIn K (.ref fa16) = true)
    (Aa17 : PySem.W.nsIn K mainGlobals "_law_is_plain_pair" = some (some (.ref fa17)))
    (La17 : K.lookup fa17 = some ⟨oca17, oda17, .func (PySem.W.fnOf "_law_is_plain_pair" "_law_is_plain_pair" (defArgs s_law_is_plain_pair) (defBody s_law_is_plain_pair) (defScope s_law_is_plain_pair) .none kVa17 dca17 pma17 ana17 cda17 cta17), sla17⟩) (Ca17 : PySem.W.codeIn K cda17 "_law_is_plain_pair" = true) (Ka17 : PySem.W.keepIn K (.ref fa17) = true)
    (Aa18 : PySem.W.nsIn K mainGlobals "_law_due" = some (some (.ref fa18)))
    (La18 : K.lookup fa18 = some ⟨oca18, oda18, .func (PySem.W.fnOf "_law_due" "_law_due" (defArgs s_law_due) (defBody s_law_due) (defScope s_law_due) .none kVa18 dca18 pma18 ana18 cda18 cta18), sla18⟩) (Ca18 : PySem.W.codeIn K cda18 "_law_due" = true) (Ka18 : PySem.W.keepIn K (.ref fa18) = true)
    (Aa19 : PySem.W.nsIn K mainGlobals "_law_thousand_right" = some (some (.ref fa19)))
    (La19 : K.lookup fa19 = some ⟨oca19, oda19, .func (PySem.W.fnOf "_law_thousand_right" "_law_thousand_right" (defArgs s_law_thousand_right) (defBody s_law_thousand_right) (defScope s_law_thousand_right) .none kVa19 dca19 pma19 ana19 cda19 cta19), sla19⟩) (Ca19 : PySem.W.codeIn K cda19 "_law_thousand_right" = true) (Ka19 : PySem.W.keepIn K (.ref fa19) = true)
    (Am0 : PySem.W.findIn K (.ref C) "__init__" = some (some (.ref fm0))) (Im0 : PySem.W.isFn K (.ref fm0) = true)
    (Lm0 : K.lookup fm0 = some ⟨ocm0, odm0, .func (PySem.W.fnOf "__init__" "Rule.__init__" (defArgs s_Rule_ddinitdd) (defBody s_Rule_ddinitdd) (defScope s_Rule_ddinitdd) .none kVm0 dcm0 pmm0 anm0 cdm0 ctm0), slm0⟩) (Cm0 : PySem.W.codeIn K cdm0 "Rule.__init__" = true) (Km0 : PySem.W.keepIn K (.ref fm0) = true)
    (Am1 : PySem.W.findIn K (.ref C) "offset" = some (some (.ref fm1))) (Im1 : PySem.W.isFn K (.ref fm1) = true)
    (Lm1 : K.lookup fm1 = some ⟨ocm1, odm1, .func (PySem.W.fnOf "offset" "Rule.offset" (defArgs s_Rule_offset) (defBody s_Rule_offset) (defScope s_Rule_offset) .none kVm1 dcm1 pmm1 anm1 cdm1 ctm1), slm1⟩) (Cm1 : PySem.W.codeIn K cdm1 "Rule.offset" = true) (Km1 : PySem.W.keepIn K (.ref fm1) = true)
    (Am2 : PySem.W.findIn K (.ref C) "_check_attempt" = some (some (.ref fm2))) (Im2 : PySem.W.isFn K (.ref fm2) = true)
    (Lm2 : K.lookup fm2 = some ⟨ocm2, odm2, .func (PySem.W.fnOf "_check_attempt" "Rule._check_attempt" (defArgs s_Rule_check_attempt) (defBody s_Rule_check_attempt) (defScope s_Rule_check_attempt) .none kVm2 dcm2 pmm2 anm2 cdm2 ctm2), slm2⟩) (Cm2 : PySem.W.codeIn K cdm2 "Rule._check_attempt" = true) (Km2 : PySem.W.keepIn K (.ref fm2) = true)
    (Am3 : PySem.W.findIn K (.ref C) "_offset_of" = some (some (.ref fm3))) (Im3 : PySem.W.isFn K (.ref fm3) = true)
    (Lm3 : K.lookup fm3 = some ⟨ocm3, odm3, .func (PySem.W.fnOf "_offset_of" "Rule._offset_of" (defArgs s_Rule_offset_of) (defBody s_Rule_offset_of) (defScope s_Rule_offset_of) .none kVm3 dcm3 pmm3 anm3 cdm3 ctm3), slm3⟩) (Cm3 : PySem.W.codeIn K cdm3 "Rule._offset_of" = true) (Km3 : PySem.W.keepIn K (.ref fm3) = true)
    (Am4 : PySem.W.findIn K (.ref C) "first_repeating" = some (some (.ref fm4))) (Im4 : PySem.W.isFn K (.ref fm4) = true)
    (Lm4 : K.lookup fm4 = some ⟨ocm4, odm4, .func (PySem.W.fnOf "first_repeating" "Rule.first_repeating" (defArgs s_Rule_first_repeating) (defBody s_Rule_first_repeating) (defScope s_Rule_first_repeating) .none kVm4 dcm4 pmm4 anm4 cdm4 ctm4), slm4⟩) (Cm4 : PySem.W.codeIn K cdm4 "Rule.first_repeating" = true) (Km4 : PySem.W.keepIn K (.ref fm4) = true)
    (Am5 : PySem.W.findIn K (.ref C) "period" = some (some (.ref fm5))) (Im5 : PySem.W.isFn K (.ref fm5) = true)
    (Lm5 : K.lookup fm5 = some ⟨ocm5, odm5, .func (PySem.W.fnOf "period" "Rule.period" (defArgs s_Rule_period) (defBody s_Rule_period) (defScope s_Rule_period) .none kVm5 dcm5 pmm5 anm5 cdm5 ctm5), slm5⟩) (Cm5 : PySem.W.codeIn K cdm5 "Rule.period" = true) (Km5 : PySem.W.keepIn K (.ref fm5) = true)
    (Az : PySem.W.nsIn K mainGlobals "law" = some (some (.ref fz)))
    (Lz : K.lookup fz = some ⟨ocz, odz, .func (PySem.W.fnOf "law" "law" (defArgs s_law) (defBody s_law) (defScope s_law) .none kVz dcz pmz anz cdz ctz), slz⟩) (Cz : PySem.W.codeIn K cdz "law" = true) (Kz : PySem.W.keepIn K (.ref fz) = true)
    (pg : PySem.W.plainGet K C Str.empty = true)
    (hd : PySem.W.hasDictIn K C = true)
    (po : PySem.W.plainOver K C = true)
    (sa : PySem.W.findIn K (.ref C) "__setattr__" = some (some (.builtin "object.__setattr__")))
    (mk : PySem.W.makesIn K C = true)
    (kc : PySem.W.keepIn K (.ref C) = true)
    (nG : PySem.W.findIn K (.ref C) "_gaps" = some none)
    (nT : PySem.W.findIn K (.ref C) "_tail" = some none)
    (nO : PySem.W.findIn K (.ref C) "_offsets" = some none)
    (aC : PySem.W.nsIn K mainGlobals "Rule" = some (some (.ref C)))
    (z_len : PySem.W.nsIn K mainGlobals "len" = some none)
    (z_isinstance : PySem.W.nsIn K mainGlobals "isinstance" = some none)
    (z_int : PySem.W.nsIn K mainGlobals "int" = some none)
    (z_bool : PySem.W.nsIn K mainGlobals "bool" = some none)
    (z_list : PySem.W.nsIn K mainGlobals "list" = some none)
    (z_tuple : PySem.W.nsIn K mainGlobals "tuple" = some none)
    (z_str : PySem.W.nsIn K mainGlobals "str" = some none)
    (z_all : PySem.W.nsIn K mainGlobals "all" = some none)
    (z_range : PySem.W.nsIn K mainGlobals "range" = some none)
    (z_divmod : PySem.W.nsIn K mainGlobals "divmod" = some none)
    (z_sum : PySem.W.nsIn K mainGlobals "sum" = some none)
    (z_max : PySem.W.nsIn K mainGlobals "max" = some none)
    (z_min : PySem.W.nsIn K mainGlobals "min" = some none)
    (z_sorted : PySem.W.nsIn K mainGlobals "sorted" = some none)
    (z_set : PySem.W.nsIn K mainGlobals "set" = some none)
    (z_any : PySem.W.nsIn K mainGlobals "any" = some none)
    (z_enumerate : PySem.W.nsIn K mainGlobals "enumerate" = some none)
    (aC_e0 : PySem.W.nsIn K mainGlobals "InvalidAttempt" = some (some (.ref C_e0)))
    (xL_e0 : K.lookup C_e0 = some (excClassObj nm_e0 q_e0 C_e0 N_e0 bs_e0 [.ref R, .type "ArithmeticError", .type "Exception", .type "BaseException", .type "object"] true sn_e0 sub_e0 ab_e0 col_e0 dd_e0 m0_e0 m1_e0 m2_e0 m3_e0 m5_e0 "ArithmeticError.__new__"))
    (sa_e0 : PySem.W.findIn K (.ref C_e0) "__setattr__" = some (some (.builtin "object.__setattr__")))
    (ga_e0 : PySem.W.findIn K (.ref C_e0) "__getattribute__" = some (some (.builtin "BaseException.__getattribute__")))
    (gg_e0 : PySem.W.findIn K (.ref C_e0) "__getattr__" = some none)
    (n0_e0 : PySem.W.findIn K (.ref C_e0) "attempt" = some none)
    (ov_e0 : PySem.W.excOver K C_e0 [.type "ArithmeticError", .type "Exception", .type "BaseException", .type "object"] = true)
    (k0_e0 : PySem.W.takerIn K C_e0 "attempt" = some none)
    (a1_e0 : PySem.W.findIn K (.ref C_e0) "__init__" = some (some (.ref f_e0)))
    (t1_e0 : PySem.W.typeIn K (.ref f_e0) = some (.type "function"))
    (l1_e0 : K.lookup f_e0 = some ⟨oc_e0, od_e0, .func (PySem.W.fnOf "__init__" "InvalidAttempt.__init__" (defArgs s_InvalidAttempt_ddinitdd) (defBody s_InvalidAttempt_ddinitdd) (defScope s_InvalidAttempt_ddinitdd) .none .none dc_e0 pm_e0 an_e0 cd_e0 ct_e0), sl_e0⟩) (c1_e0 : PySem.W.codeIn K cd_e0 "InvalidAttempt.__init__" = true)
    (kC_e0 : PySem.W.keepIn K (.ref C_e0) = true) (eC_e0 : PySem.W.subIn K (.ref C_e0) (.type "BaseException") = some true) (tC_e0 : PySem.W.typeIn K (.ref C_e0) = some (.type "type")) (hC_e0 : PySem.W.hasDictIn K C_e0 = true)
    (ca_e0 : PySem.W.findIn K (.ref C_e0) "__class__" = some (some (.builtin "object.__class__"))) (cn_e0 : PySem.W.specialIn K (.builtin "object.__class__") "__get__" = some (some (.builtin "getset_descriptor.__get__"))) (ct2_e0 : PySem.W.takesIn K (.builtin "object.__class__") = some true) (cm_e0 : PySem.W.mroIn K C_e0 (.type "object") = some true)
    (aC_e1 : PySem.W.nsIn K mainGlobals "LimitExceeded" = some (some (.ref C_e1)))
    (xL_e1 : K.lookup C_e1 = some (excClassObj nm_e1 q_e1 C_e1 N_e1 bs_e1 [.ref R, .type "ArithmeticError", .type "Exception", .type "BaseException", .type "object"] true sn_e1 sub_e1 ab_e1 col_e1 dd_e1 m0_e1 m1_e1 m2_e1 m3_e1 m5_e1 "ArithmeticError.__new__"))
    (sa_e1 : PySem.W.findIn K (.ref C_e1) "__setattr__" = some (some (.builtin "object.__setattr__")))
    (ga_e1 : PySem.W.findIn K (.ref C_e1) "__getattribute__" = some (some (.builtin "BaseException.__getattribute__")))
    (gg_e1 : PySem.W.findIn K (.ref C_e1) "__getattr__" = some none)
    (n0_e1 : PySem.W.findIn K (.ref C_e1) "limit" = some none)
    (ov_e1 : PySem.W.excOver K C_e1 [.type "ArithmeticError", .type "Exception", .type "BaseException", .type "object"] = true)
    (k0_e1 : PySem.W.takerIn K C_e1 "limit" = some none)
    (a1_e1 : PySem.W.findIn K (.ref C_e1) "__init__" = some (some (.ref f_e1)))
    (t1_e1 : PySem.W.typeIn K (.ref f_e1) = some (.type "function"))
    (l1_e1 : K.lookup f_e1 = some ⟨oc_e1, od_e1, .func (PySem.W.fnOf "__init__" "LimitExceeded.__init__" (defArgs s_LimitExceeded_ddinitdd) (defBody s_LimitExceeded_ddinitdd) (defScope s_LimitExceeded_ddinitdd) .none .none dc_e1 pm_e1 an_e1 cd_e1 ct_e1), sl_e1⟩) (c1_e1 : PySem.W.codeIn K cd_e1 "LimitExceeded.__init__" = true)
    (kC_e1 : PySem.W.keepIn K (.ref C_e1) = true) (eC_e1 : PySem.W.subIn K (.ref C_e1) (.type "BaseException") = some true) (tC_e1 : PySem.W.typeIn K (.ref C_e1) = some (.type "type")) (hC_e1 : PySem.W.hasDictIn K C_e1 = true)
    (ca_e1 : PySem.W.findIn K (.ref C_e1) "__class__" = some (some (.builtin "object.__class__"))) (cn_e1 : PySem.W.specialIn K (.builtin "object.__class__") "__get__" = some (some (.builtin "getset_descriptor.__get__"))) (ct2_e1 : PySem.W.takesIn K (.builtin "object.__class__") = some true) (cm_e1 : PySem.W.mroIn K C_e1 (.type "object") = some true)
    (y00 : PySem.W.subIn K (.ref C_e0) (.ref C_e0) = some true)
    (y01 : PySem.W.subIn K (.ref C_e0) (.ref C_e1) = some false)
    (y10 : PySem.W.subIn K (.ref C_e1) (.ref C_e0) = some false)
    (y11 : PySem.W.subIn K (.ref C_e1) (.ref C_e1) = some true)
    (c_tM : PySem.W.nsIn K mainGlobals "_MOST_GAPS" = some (some (.int 20 tM)))
    (c_tF : PySem.W.nsIn K mainGlobals "_GREATEST_FACTOR" = some (some (.int 1000 tF)))
    (c_tL : PySem.W.nsIn K mainGlobals "LAST_GROWING" = some (some (.int 1000 tL))) :
    ∃ fd : FuncData, (∀ (s : Shared) (v : Value), BindsTo s fd ⟨[v], []⟩ [("_law_script", v)]) ∧ ∀ base : Heap, K.In base → base.Ns mainGlobals mg → FnOk l.prog w K mg base CX0 9 fa fd ["_law_script"] (spLaw K) := by
  have e := hfa.symm.trans (PySem.W.mg_of X G Az)
  cases e
  have T : Txt K mg C := ⟨⟨pg, hd, po, sa⟩, nG, nT, nO, PySem.W.mg_of X G aC, PySem.W.mg_none_of X G z_len, PySem.W.mg_none_of X G z_isinstance, PySem.W.mg_none_of X G z_int, PySem.W.mg_none_of X G z_bool, PySem.W.mg_none_of X G z_list, PySem.W.mg_none_of X G z_tuple, PySem.W.mg_none_of X G z_str, PySem.W.mg_none_of X G z_all, PySem.W.mg_none_of X G z_range, PySem.W.mg_none_of X G z_divmod, PySem.W.mg_none_of X G z_sum, PySem.W.mg_none_of X G z_max, PySem.W.mg_none_of X G z_min, PySem.W.mg_none_of X G z_sorted, PySem.W.mg_none_of X G z_set, PySem.W.mg_none_of X G z_any, PySem.W.mg_none_of X G z_enumerate, ⟨tM, PySem.W.mg_of X G c_tM⟩, hlong, ⟨tF, PySem.W.mg_of X G c_tF⟩, ⟨tL, PySem.W.mg_of X G c_tL⟩⟩
  have Fa0 := fun_mk (st := s_is_integer) La0 Ca0 Ka0
  have Fa1 := fun_mk (st := s_are_gaps) La1 Ca1 Ka1
  have Fa2 := fun_mk (st := s_is_tail) La2 Ca2 Ka2
  have Fa3 := fun_mk (st := s_sums) La3 Ca3 Ka3
  have Fa4 := fun_mk (st := s_power) La4 Ca4 Ka4
  have Fa5 := fun_mk (st := s_is_repetition) La5 Ca5 Ka5
  have Fa6 := fun_mk (st := s_is_pair) La6 Ca6 Ka6
  have Fa7 := fun_mk (st := s_is_attempt) La7 Ca7 Ka7
  have Fa8 := fun_mk (st := s_difference) La8 Ca8 Ka8
  have Fa9 := fun_mk (st := s_law_source_of) La9 Ca9 Ka9
  have Fa10 := fun_mk (st := s_law_draw) La10 Ca10 Ka10
  have Fa11 := fun_mk (st := s_law_choice) La11 Ca11 Ka11
  have Fa12 := fun_mk (st := s_law_cell_at) La12 Ca12 Ka12
  have Fa13 := fun_mk (st := s_law_gaps) La13 Ca13 Ka13
  have Fa14 := fun_mk (st := s_law_tail) La14 Ca14 Ka14
  have Fa15 := fun_mk (st := s_law_offsets) La15 Ca15 Ka15
  have Fa16 := fun_mk (st := s_law_changed) La16 Ca16 Ka16
  have Fa17 := fun_mk (st := s_law_is_plain_pair) La17 Ca17 Ka17
  have Fa18 := fun_mk (st := s_law_due) La18 Ca18 Ka18
  have Fa19 := fun_mk (st := s_law_thousand_right) La19 Ca19 Ka19
  have Fm0 := fun_mk (st := s_Rule_ddinitdd) Lm0 Cm0 Km0
  have Fm1 := fun_mk (st := s_Rule_offset) Lm1 Cm1 Km1
  have Fm2 := fun_mk (st := s_Rule_check_attempt) Lm2 Cm2 Km2
  have Fm3 := fun_mk (st := s_Rule_offset_of) Lm3 Cm3 Km3
  have Fm4 := fun_mk (st := s_Rule_first_repeating) Lm4 Cm4 Km4
  have Fm5 := fun_mk (st := s_Rule_period) Lm5 Cm5 Km5
  have Fz := fun_mk (st := s_law) Lz Cz Kz
  have ba0 := Fa0.binds (ps := ["value"]) fun _ _ _ _ _ _ us hl => match us, hl with | [_], _ => rfl
  have ga0 := PySem.W.mg_of X G Aa0
  have ba1 := Fa1.binds (ps := ["value", "most"]) fun _ _ _ _ _ _ us hl => match us, hl with | [_, _], _ => rfl
  have ga1 := PySem.W.mg_of X G Aa1
  have ba2 := Fa2.binds (ps := ["value", "many"]) fun _ _ _ _ _ _ us hl => match us, hl with | [_, _], _ => rfl
  have ga2 := PySem.W.mg_of X G Aa2
  have ba3 := Fa3.binds (ps := ["gaps"]) fun _ _ _ _ _ _ us hl => match us, hl with | [_], _ => rfl
  have ga3 := PySem.W.mg_of X G Aa3
  have ba4 := Fa4.binds (ps := ["base", "exponent"]) fun _ _ _ _ _ _ us hl => match us, hl with | [_, _], _ => rfl
  have ga4 := PySem.W.mg_of X G Aa4
  have ba5 := Fa5.binds (ps := ["rule", "value"]) fun _ _ _ _ _ _ us hl => match us, hl with | [_, _], _ => rfl
  have ga5 := PySem.W.mg_of X G Aa5
  have ba6 := Fa6.binds (ps := ["rule", "value"]) fun _ _ _ _ _ _ us hl => match us, hl with | [_, _], _ => rfl
  have ga6 := PySem.W.mg_of X G Aa6
  have ba7 := Fa7.binds (ps := ["rule", "value"]) fun _ _ _ _ _ _ us hl => match us, hl with | [_, _], _ => rfl
  have ga7 := PySem.W.mg_of X G Aa7
  have ba8 := Fa8.binds (ps := ["rule", "pair"]) fun _ _ _ _ _ _ us hl => match us, hl with | [_, _], _ => rfl
  have ga8 := PySem.W.mg_of X G Aa8
  have ba9 := Fa9.binds (ps := ["_law_cell"]) fun _ _ _ _ _ _ us hl => match us, hl with | [_], _ => rfl
  have ga9 := PySem.W.mg_of X G Aa9
  have ba10 := Fa10.binds (ps := ["_law_source", "_law_bound"]) fun _ _ _ _ _ _ us hl => match us, hl with | [_, _], _ => rfl
  have ga10 := PySem.W.mg_of X G Aa10
  have ba11 := Fa11.binds (ps := ["_law_source", "_law_options"]) fun _ _ _ _ _ _ us hl => match us, hl with | [_, _], _ => rfl
  have ga11 := PySem.W.mg_of X G Aa11
  have ba12 := Fa12.binds (ps := ["_law_script", "_law_index"]) fun _ _ _ _ _ _ us hl => match us, hl with | [_, _], _ => rfl
  have ga12 := PySem.W.mg_of X G Aa12
  have ba13 := Fa13.binds (ps := ["_law_source"]) fun _ _ _ _ _ _ us hl => match us, hl with | [_], _ => rfl
  have ga13 := PySem.W.mg_of X G Aa13
  have ba14 := Fa14.binds (ps := ["_law_source", "_law_gaps_here", "_law_words"]) fun _ _ _ _ _ _ us hl => match us, hl with | [_, _, _], _ => rfl
  have ga14 := PySem.W.mg_of X G Aa14
  have ba15 := Fa15.binds (ps := ["_law_gaps_here", "_law_tail_here", "_law_count"]) fun _ _ _ _ _ _ us hl => match us, hl with | [_, _, _], _ => rfl
  have ga15 := PySem.W.mg_of X G Aa15
  have ba16 := Fa16.binds (ps := ["_law_source", "_law_value", "_law_tail_here"]) fun _ _ _ _ _ _ us hl => match us, hl with | [_, _, _], _ => rfl
  have ga16 := PySem.W.mg_of X G Aa16
  have ba17 := Fa17.binds (ps := ["_law_value", "_law_count"]) fun _ _ _ _ _ _ us hl => match us, hl with | [_, _], _ => rfl
  have ga17 := PySem.W.mg_of X G Aa17
  have ba18 := Fa18.binds (ps := ["_law_offsets_here", "_law_value"]) fun _ _ _ _ _ _ us hl => match us, hl with | [_, _], _ => rfl
  have ga18 := PySem.W.mg_of X G Aa18
  have ba19 := Fa19.binds (ps := []) fun _ _ _ _ _ _ us hl => match us, hl with | [], _ => rfl
  have ga19 := PySem.W.mg_of X G Aa19
  have bm0 := Fm0.binds (ps := ["self", "gaps", "tail"]) fun _ _ _ _ _ _ us hl => match us, hl with | [_, _, _], _ => rfl
  have em0 : Meth K C "__init__" fm0 := ⟨Am0, Im0, Km0⟩
  have bm1 := Fm1.binds (ps := ["self", "attempt"]) fun _ _ _ _ _ _ us hl => match us, hl with | [_, _], _ => rfl
  have em1 : Meth K C "offset" fm1 := ⟨Am1, Im1, Km1⟩
  have bm2 := Fm2.binds (ps := ["self", "attempt"]) fun _ _ _ _ _ _ us hl => match us, hl with | [_, _], _ => rfl
  have em2 : Meth K C "_check_attempt" fm2 := ⟨Am2, Im2, Km2⟩
  have bm3 := Fm3.binds (ps := ["self", "attempt"]) fun _ _ _ _ _ _ us hl => match us, hl with | [_, _], _ => rfl
  have em3 : Meth K C "_offset_of" fm3 := ⟨Am3, Im3, Km3⟩
  have bm4 := Fm4.binds (ps := ["self"]) fun _ _ _ _ _ _ us hl => match us, hl with | [_], _ => rfl
  have em4 : Meth K C "first_repeating" fm4 := ⟨Am4, Im4, Km4⟩
  have bm5 := Fm5.binds (ps := ["self"]) fun _ _ _ _ _ _ us hl => match us, hl with | [_], _ => rfl
  have em5 : Meth K C "period" fm5 := ⟨Am5, Im5, Km5⟩
  have E_e0 := et_InvalidAttempt X G aC_e0 xL_e0 sa_e0 ga_e0 gg_e0 n0_e0 ov_e0 k0_e0 a1_e0 t1_e0 l1_e0 c1_e0 kC_e0 eC_e0 tC_e0 hC_e0 ca_e0 cn_e0 ct2_e0 cm_e0
  have E_e1 := et_LimitExceeded X G aC_e1 xL_e1 sa_e1 ga_e1 gg_e1 n0_e1 ov_e1 k0_e1 a1_e1 t1_e1 l1_e1 c1_e1 kC_e1 eC_e1 tC_e1 hC_e1 ca_e1 cn_e1 ct2_e1 cm_e1
  refine ⟨PySem.W.fnOf "law" "law" (defArgs s_law) (defBody s_law) (defScope s_law) .none kVz dcz pmz anz cdz ctz, fun s v => .of_eq rfl, fun base _ _ => ?_⟩
  have GI : FnOk l.prog w K mg base CX0 3 fm0 _ ["self", "gaps", "tail"] (spInit C) := ok_init Fm0 T Fa0 ba0 ga0 Fa1 ba1 ga1 Fa2 ba2 ga2 Fa3 ba3 ga3
  have M : Mk K C fm0 := ⟨mk, Am0, Im0, kc⟩
  have GC : FnOk l.prog w K mg base CX0 2 fm2 _ ["self", "attempt"] (spCheck C) := ok_check Fm2 T Fa0 ba0 ga0
  have GO : FnOk l.prog w K mg base CX0 3 fm3 _ ["self", "attempt"] (spOff C) := ok_off Fm3 T Fm4 bm4 em4 Fm5 bm5 em5 Fa4 ba4 ga4
  have GOf : FnOk l.prog w K mg base CX0 4 fm1 _ ["self", "attempt"] (spOff C) := ok_offset Fm1 T em2 bm2 em3 bm3 GC GO
  have XE : Ers K mg C_e0 f_e0 C_e1 f_e1 := ⟨E_e0.1, E_e1.1⟩
  have YC : Cat K C_e0 C_e1 := ⟨exm_any2 (exm_own E_e0.2.sb E_e0.2.cl E_e0.1.tyC y00) (exm_own E_e1.2.sb E_e1.2.cl E_e1.1.tyC y01), exm_any2 (exm_own E_e0.2.sb E_e0.2.cl E_e0.1.tyC y10) (exm_own E_e1.2.sb E_e1.2.cl E_e1.1.tyC y11)⟩
  have GChR : FnOk l.prog w K mg base (L2.CX l.prog w) 3 fm2 _ ["self", "attempt"] (spChkR K C C_e0 C_e1) := ok_chkR Fm2 T XE Fa0 ba0 ga0
  have GOfR : FnOk l.prog w K mg base (L2.CX l.prog w) 4 fm1 _ ["self", "attempt"] (spOffR K C C_e0 C_e1) := ok_offsetR Fm1 T em2 bm2 em3 bm3 GChR GO
  have GAt : FnOk l.prog w K mg base CX0 5 fa7 _ ["rule", "value"] (spIsAtt C) := ok_isAtt Fa7 T XE YC em1 bm1 GOfR
  have GPr : FnOk l.prog w K mg base CX0 6 fa6 _ ["rule", "value"] (spIsPair C) := ok_isPair Fa6 T GAt ba7 ga7 Ka7
  have GDf : FnOk l.prog w K mg base CX0 5 fa8 _ ["rule", "pair"] (spDif C) := ok_dif Fa8 T em1 bm1 GOf
  have GRp : FnOk l.prog w K mg base CX0 7 fa5 _ ["rule", "value"] (spIsRep C) := ok_isRep Fa5 T GPr ba6 ga6 Ka6 GDf ba8 ga8 Ka8
  have GCell : FnOk l.prog w K mg base CX0 1 fa12 _ ["_law_script", "_law_index"] (spCell K) := ok_cell Fa12 T
  have GSrc : FnOk l.prog w K mg base CX0 1 fa9 _ ["_law_cell"] spSrcOf := ok_srcOf Fa9 T
  have GN : FnOk l.prog w K mg base CX0 1 fa10 _ ["_law_source", "_law_bound"] spNext := ok_next Fa10 T
  have GOne : FnOk l.prog w K mg base CX0 2 fa11 _ ["_law_source", "_law_options"] spOne := ok_one Fa11 T Fa10 ba10 ga10
  have GGs : FnOk l.prog w K mg base CX0 3 fa13 _ ["_law_source"] spGps := ok_gps Fa13 T (PySem.W.mg_none_of X G z_min) GN ba10 ga10 Ka10 GOne ba11 ga11 Ka11
  have GTl : FnOk l.prog w K mg base CX0 3 fa14 _ ["_law_source", "_law_gaps_here", "_law_words"] spTl := ok_tl Fa14 T GN ba10 ga10 Ka10 GOne ba11 ga11 Ka11
  have GOs : FnOk l.prog w K mg base CX0 1 fa15 _ ["_law_gaps_here", "_law_tail_here", "_law_count"] spOfs := ok_ofs Fa15 T
  have GChg : FnOk l.prog w K mg base CX0 3 fa16 _ ["_law_source", "_law_value", "_law_tail_here"] spCh := ok_ch Fa16 T GOne ba11 ga11 Ka11
  have GPl : FnOk l.prog w K mg base CX0 1 fa17 _ ["_law_value", "_law_count"] spPl := ok_pl Fa17 T
  have GDu : FnOk l.prog w K mg base CX0 2 fa18 _ ["_law_offsets_here", "_law_value"] spDue := ok_due Fa18 T GPl ba17 ga17 Ka17
  have GTh : FnOk l.prog w K mg base CX0 8 fa19 _ [] spTh := ok_th Fa19 T M GI bm0 GRp ba5 ga5 Ka5
  exact ok_law Fz T M GI bm0 GCell ba12 ga12 Ka12 GSrc ba9 ga9 Ka9 GGs ba13 ga13 Ka13 GTl ba14 ga14 Ka14 GOs ba15 ga15 Ka15 GN ba10 ga10 Ka10 GOne ba11 ga11 Ka11 GChg ba16 ga16 Ka16 GDu ba18 ga18 Ka18 GRp ba5 ga5 Ka5 GTh ba19 ga19 Ka19 (PySem.W.mg_none_of X G z_sorted)
/-- the end of the walk, with what the top left loose -/
theorem walk_x {l : PySem.W.OpenLaw} {q : Program} {loose : List Str} {XP : (Str → Option Value) → Heap → Prop} {YP : World → Heap → Prop} {d : DefRec} {K : Params → PySem.W.Frag} (hn : l.most = some 63) (hdf : d.params.defaults = [])
    (hY : ∀ (w : World) (h : Heap), YP w h → (K w.params).In h)
    (F : ∀ (w : World) (mg : Str → Option Value) (fa : Addr) (h : Heap), (K w.params).In h → h.Ns mainGlobals mg → mg d.name = some (.ref fa) → XP mg h →
      ∃ fd : FuncData, (∀ (s : Shared) (u : Value), BindsTo s fd ⟨[u], []⟩ [("_law_script", u)]) ∧ ∀ base : Heap, (K w.params).In base → base.Ns mainGlobals mg → FnOk l.prog w (K w.params) mg base CX0 9 fa fd ["_law_script"] (spLaw (K w.params))) :
    PySem.W.WalkO q loose XP YP l.row.toRowW d [] (fun f vs => PySem.call f vs) := by
  refine Att.attach_call hn hdf ?_
  intro w _ s1 mg _ fa _ _ _ _ a vs ns G Y _ _ _ hmg hobj hints hlen hg
  obtain ⟨fd, hb, hF⟩ := F w mg fa _ (hY w _ Y) G.T.g hmg G.X
  refine law_call (hY w _ Y) G.T.g G.T.b G.T.builtins G.T.nolimit hg hobj hints ?_ ?_ hF hb ?_ ?_
  · exact Nat.le_trans hlen (by decide)
  · exact ⟨rfl, by decide, by decide⟩
  · exact fun H _ hS => ⟨a, ns, rfl, hS, hlen, fun _ => rfl⟩
  · exact fun H e s' z => z
theorem long_of {p : Program} {mg : Str → Option Value} {h : Heap} (x : PySem.W.XL p [("_LONGEST_GAP", .int 1000000000000)] mg h) : ∃ t, mg "_LONGEST_GAP" = some (.int 1000000000000 t) := by
  obtain ⟨v, e, r⟩ := x.2.val _ (List.mem_singleton.mpr rfl)
  cases r
  exact ⟨_, e⟩
end RS
open PySem PySem.W PyProof.Rows
set_option maxRecDepth 100000 in
set_option maxHeartbeats 0 in
theorem PySem.Challenge.cw_retryslots_k12_repetitions_judged_holds : PySem.Challenge.rw_retryslots_k12_repetitions_judged.Holds := by
  w_on; o_law; k_head; (case hw => w_witness2)
  k_fill
  refine RS.walk_x (l := PySem.Challenge.rw_retryslots_k12_repetitions_judged) rfl rfl (fun w h Y => PySem.W.kIn_of Y) ?F
  case F =>
    intro w mg fa h KX G hmg XX
    refine' RS.all_mk KX G hmg (RS.long_of XX) ?Aa0 ?La0 ?Ca0 ?Ka0 ?Aa1 ?La1 ?Ca1 ?Ka1 ?Aa2 ?La2 ?Ca2 ?Ka2 ?Aa3 ?La3 ?Ca3 ?Ka3 ?Aa4 ?La4 ?Ca4 ?Ka4 ?Aa5 ?La5 ?Ca5 ?Ka5 ?Aa6 ?La6 ?Ca6 ?Ka6 ?Aa7 ?La7 ?Ca7 ?Ka7 ?Aa8 ?La8 ?Ca8 ?Ka8 ?Aa9 ?La9 ?Ca9 ?Ka9 ?Aa10 ?La10 ?Ca10 ?Ka10 ?Aa11 ?La11 ?Ca11 ?Ka11 ?Aa12 ?La12 ?Ca12 ?Ka12 ?Aa13 ?La13 ?Ca13 ?Ka13 ?Aa14 ?La14 ?Ca14 ?Ka14 ?Aa15 ?La15 ?Ca15 ?Ka15 ?Aa16 ?La16 ?Ca16 ?Ka16 ?Aa17 ?La17 ?Ca17 ?Ka17 ?Aa18 ?La18 ?Ca18 ?Ka18 ?Aa19 ?La19 ?Ca19 ?Ka19 ?Am0 ?Im0 ?Lm0 ?Cm0 ?Km0 ?Am1 ?Im1 ?Lm1 ?Cm1 ?Km1 ?Am2 ?Im2 ?Lm2 ?Cm2 ?Km2 ?Am3 ?Im3 ?Lm3 ?Cm3 ?Km3 ?Am4 ?Im4 ?Lm4 ?Cm4 ?Km4 ?Am5 ?Im5 ?Lm5 ?Cm5 ?Km5 ?Az ?Lz ?Cz ?Kz ?pg ?hd ?po ?sa ?mk ?kc ?nG ?nT ?nO ?aC ?z_len ?z_isinstance ?z_int ?z_bool ?z_list ?z_tuple ?z_str ?z_all ?z_range ?z_divmod ?z_sum ?z_max ?z_min ?z_sorted ?z_set ?z_any ?z_enumerate ?aC_e0 ?xL_e0 ?sa_e0 ?ga_e0 ?gg_e0 ?n0_e0 ?ov_e0 ?k0_e0 ?a1_e0 ?t1_e0 ?l1_e0 ?c1_e0 ?kC_e0 ?eC_e0 ?tC_e0 ?hC_e0 ?ca_e0 ?cn_e0 ?ct2_e0 ?cm_e0 ?aC_e1 ?xL_e1 ?sa_e1 ?ga_e1 ?gg_e1 ?n0_e1 ?ov_e1 ?k0_e1 ?a1_e1 ?t1_e1 ?l1_e1 ?c1_e1 ?kC_e1 ?eC_e1 ?tC_e1 ?hC_e1 ?ca_e1 ?cn_e1 ?ct2_e1 ?cm_e1 ?y00 ?y01 ?y10 ?y11 ?c_tM ?c_tF ?c_tL
    (case aC => k_is)
    (case aC_e0 => first | k_is | kx_is | decide)
    (case aC_e1 => first | k_is | kx_is | decide)
    (case Aa0 => k_is)
    (case La0 => k_is)
    (case Ca0 => k_is)
    (case Ka0 => k_is)
    (case Aa1 => k_is)
    (case La1 => k_is)
    (case Ca1 => k_is)
    (case Ka1 => k_is)
    (case Aa2 => k_is)
    (case La2 => k_is)
    (case Ca2 => k_is)
    (case Ka2 => k_is)
    (case Aa3 => k_is)
    (case La3 => k_is)
    (case Ca3 => k_is)
    (case Ka3 => k_is)
    (case Aa4 => k_is)
    (case La4 => k_is)
    (case Ca4 => k_is)
    (case Ka4 => k_is)
    (case Aa5 => k_is)
    (case La5 => k_is)
    (case Ca5 => k_is)
    (case Ka5 => k_is)
    (case Aa6 => k_is)
    (case La6 => k_is)
    (case Ca6 => k_is)
    (case Ka6 => k_is)
    (case Aa7 => k_is)
    (case La7 => k_is)
    (case Ca7 => k_is)
    (case Ka7 => k_is)
    (case Aa8 => k_is)
    (case La8 => k_is)
    (case Ca8 => k_is)
    (case Ka8 => k_is)
    (case Aa9 => k_is)
    (case La9 => k_is)
    (case Ca9 => k_is)
    (case Ka9 => k_is)
    (case Aa10 => k_is)
    (case La10 => k_is)
    (case Ca10 => k_is)
    (case Ka10 => k_is)
    (case Aa11 => k_is)
    (case La11 => k_is)
    (case Ca11 => k_is)
    (case Ka11 => k_is)
    (case Aa12 => k_is)
    (case La12 => k_is)
    (case Ca12 => k_is)
    (case Ka12 => k_is)
    (case Aa13 => k_is)
    (case La13 => k_is)
    (case Ca13 => k_is)
    (case Ka13 => k_is)
    (case Aa14 => k_is)
    (case La14 => k_is)
    (case Ca14 => k_is)
    (case Ka14 => k_is)
    (case Aa15 => k_is)
    (case La15 => k_is)
    (case Ca15 => k_is)
    (case Ka15 => k_is)
    (case Aa16 => k_is)
    (case La16 => k_is)
    (case Ca16 => k_is)
    (case Ka16 => k_is)
    (case Aa17 => k_is)
    (case La17 => k_is)
    (case Ca17 => k_is)
    (case Ka17 => k_is)
    (case Aa18 => k_is)
    (case La18 => k_is)
    (case Ca18 => k_is)
    (case Ka18 => k_is)
    (case Aa19 => k_is)
    (case La19 => k_is)
    (case Ca19 => k_is)
    (case Ka19 => k_is)
    (case Am0 => k_is)
    (case Im0 => k_is)
    (case Lm0 => k_is)
    (case Cm0 => k_is)
    (case Km0 => k_is)
    (case Am1 => k_is)
    (case Im1 => k_is)
    (case Lm1 => k_is)
    (case Cm1 => k_is)
    (case Km1 => k_is)
    (case Am2 => k_is)
    (case Im2 => k_is)
    (case Lm2 => k_is)
    (case Cm2 => k_is)
    (case Km2 => k_is)
    (case Am3 => k_is)
    (case Im3 => k_is)
    (case Lm3 => k_is)
    (case Cm3 => k_is)
    (case Km3 => k_is)
    (case Am4 => k_is)
    (case Im4 => k_is)
    (case Lm4 => k_is)
    (case Cm4 => k_is)
    (case Km4 => k_is)
    (case Am5 => k_is)
    (case Im5 => k_is)
    (case Lm5 => k_is)
    (case Cm5 => k_is)
    (case Km5 => k_is)
    (case Az => k_is)
    (case Lz => k_is)
    (case Cz => k_is)
    (case Kz => k_is)
    (case pg => k_is)
    (case hd => k_is)
    (case po => k_is)
    (case sa => k_is)
    (case mk => k_is)
    (case kc => k_is)
    (case nG => k_is)
    (case nT => k_is)
    (case nO => k_is)
    (case z_len => k_is)
    (case z_isinstance => k_is)
    (case z_int => k_is)
    (case z_bool => k_is)
    (case z_list => k_is)
    (case z_tuple => k_is)
    (case z_str => k_is)
    (case z_all => k_is)
    (case z_range => k_is)
    (case z_divmod => k_is)
    (case z_sum => k_is)
    (case z_max => k_is)
    (case z_min => k_is)
    (case z_sorted => k_is)
    (case z_set => k_is)
    (case z_any => k_is)
    (case z_enumerate => first | k_is | kx_is | decide)
    (case xL_e0 => first | k_is | kx_is | decide)
    (case sa_e0 => first | k_is | kx_is | decide)
    (case ga_e0 => first | k_is | kx_is | decide)
    (case gg_e0 => first | k_is | kx_is | decide)
    (case n0_e0 => first | k_is | kx_is | decide)
    (case ov_e0 => first | k_is | kx_is | decide)
    (case k0_e0 => first | k_is | kx_is | decide)
    (case a1_e0 => first | k_is | kx_is | decide)
    (case t1_e0 => first | k_is | kx_is | decide)
    (case l1_e0 => first | k_is | kx_is | decide)
    (case c1_e0 => first | k_is | kx_is | decide)
    (case kC_e0 => first | k_is | kx_is | decide)
    (case eC_e0 => first | k_is | kx_is | decide)
    (case tC_e0 => first | k_is | kx_is | decide)
    (case hC_e0 => first | k_is | kx_is | decide)
    (case ca_e0 => first | k_is | kx_is | decide)
    (case cn_e0 => first | k_is | kx_is | decide)
    (case ct2_e0 => first | k_is | kx_is | decide)
    (case cm_e0 => first | k_is | kx_is | decide)
    (case xL_e1 => first | k_is | kx_is | decide)
    (case sa_e1 => first | k_is | kx_is | decide)
    (case ga_e1 => first | k_is | kx_is | decide)
    (case gg_e1 => first | k_is | kx_is | decide)
    (case n0_e1 => first | k_is | kx_is | decide)
    (case ov_e1 => first | k_is | kx_is | decide)
    (case k0_e1 => first | k_is | kx_is | decide)
    (case a1_e1 => first | k_is | kx_is | decide)
    (case t1_e1 => first | k_is | kx_is | decide)
    (case l1_e1 => first | k_is | kx_is | decide)
    (case c1_e1 => first | k_is | kx_is | decide)
    (case kC_e1 => first | k_is | kx_is | decide)
    (case eC_e1 => first | k_is | kx_is | decide)
    (case tC_e1 => first | k_is | kx_is | decide)
    (case hC_e1 => first | k_is | kx_is | decide)
    (case ca_e1 => first | k_is | kx_is | decide)
    (case cn_e1 => first | k_is | kx_is | decide)
    (case ct2_e1 => first | k_is | kx_is | decide)
    (case cm_e1 => first | k_is | kx_is | decide)
    (case y00 => first | k_is | kx_is | decide)
    (case y01 => first | k_is | kx_is | decide)
    (case y10 => first | k_is | kx_is | decide)
    (case y11 => first | k_is | kx_is | decide)
    (case c_tM => k_is)
    (case c_tF => k_is)
    (case c_tL => k_is)

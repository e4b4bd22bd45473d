import PyProof.Rows.All
import Wide.All
import OpenK.AllK
import Wide.FinOn
import HandS.ForMost
import HandS.Evl
import HandS.Wide
import HandS.WideBits
import HandS.IsInst
import KE.KEqDeep
import KE.KMinKey
import HandS.Codes
import HandS.OwnEq
import PyProof.InstNe
import HandS.MakeKwOnly
import HandS.SortKw
import HandS.Defaults
import HandS.Exc
import HandS.TryOnly
import HandS.TryMany
import HandS.ExcOwn
import HandS.WordsExc
import HandS.More
import HandS.Lambda
import KE.KExcIs
import HandS.HotCalls
import HandS.ExcInit
import KE.KExcInit
import HandS.Walk
import HandS.Flow
import HandS.Style
import HandS.Iter
import PyProof.ReprRoads
import HandS.EndTab
import KE.DataFind
import HandS.SetFor
import HandS.Strs
import HandS.SortInts
import HandS.Conv
import PySem.Challenge.RW_retryslots_k69_closed_sets_judged
set_option Elab.async false
set_option maxRecDepth 100000
set_option maxHeartbeats 2000000
namespace RS
open PySem L2
def top (i : Nat) : Stmt := PySem.Challenge.pw_retryslots_k69_closed_sets_judged.main.body.getD i (.Pass ⟨0, 0, 0, 0⟩)
abbrev s_wall : Stmt := top 0
abbrev s_InvalidRule_ddinitdd : Stmt := inClass (top 3) 0
abbrev s_InvalidAttempt_ddinitdd : Stmt := inClass (top 4) 0
abbrev s_InvalidScene_ddinitdd : Stmt := inClass (top 5) 0
abbrev s_LimitExceeded_ddinitdd : Stmt := inClass (top 6) 0
abbrev s_is_integer : Stmt := top 8
abbrev s_check_starts : Stmt := top 12
abbrev s_are_gaps : Stmt := top 13
abbrev s_sums : Stmt := top 15
abbrev s_listed_offsets : Stmt := top 16
abbrev s_repeating_offsets : Stmt := top 17
abbrev s_blocked_clients : Stmt := top 19
abbrev s_is_closed : Stmt := top 20
abbrev s_check_repeating : Stmt := top 21
abbrev s_check_clients : Stmt := top 22
abbrev s_are_ascending : Stmt := top 23
abbrev s_residues : Stmt := top 24
abbrev s_residue_table : Stmt := top 25
abbrev s_greatest_closed : Stmt := top 26
abbrev s_partners : Stmt := top 27
abbrev s_Rule_ddinitdd : Stmt := inClass (top 32) 0
abbrev s_Rule_ddeqdd : Stmt := inClass (top 32) 1
abbrev s_Rule_gaps : Stmt := inClass (top 32) 2
abbrev s_Rule_tail : Stmt := inClass (top 32) 3
abbrev s_Rule_attempts : Stmt := inClass (top 32) 4
abbrev s_Rule_gap : Stmt := inClass (top 32) 5
abbrev s_Rule_offset : Stmt := inClass (top 32) 6
abbrev s_Rule_first_from : Stmt := inClass (top 32) 7
abbrev s_Rule_attempt_at : Stmt := inClass (top 32) 8
abbrev s_Rule_period : Stmt := inClass (top 32) 9
abbrev s_Rule_least_gap : Stmt := inClass (top 32) 10
abbrev s_Rule_first_repeating : Stmt := inClass (top 32) 11
abbrev s_Rule_offsets_between : Stmt := inClass (top 32) 12
abbrev s_Rule_check_attempt : Stmt := inClass (top 32) 13
abbrev s_Rule_offset_of : Stmt := inClass (top 32) 14
abbrev s_Rule_first_growing : Stmt := inClass (top 32) 15
abbrev s_Rule_surely_short : Stmt := inClass (top 32) 16
abbrev s_Rule_first_repeated : Stmt := inClass (top 32) 17
abbrev s_is_tail : Stmt := top 33
abbrev s_power : Stmt := top 34
abbrev s_law_cell_at : Stmt := top 36
abbrev s_law_source_of : Stmt := top 37
abbrev s_law_draw : Stmt := top 38
abbrev s_law_choice : Stmt := top 39
abbrev s_law_repeating : Stmt := top 40
abbrev s_law_residues : Stmt := top 41
abbrev s_law_starts : Stmt := top 42
abbrev s_law_closed : Stmt := top 43
abbrev s_law_changed : Stmt := top 44
abbrev s_law_due : Stmt := top 45
abbrev s_law_doubled_right : Stmt := top 46
abbrev s_law : Stmt := top 47
/-! ### what the walk asks of the text's top -/
structure Txt (K : PySem.W.Frag) (mg : Str → Option Value) (C : Addr) : Prop where
  cl : Cls K C
  nG : NoAttr K C "_gaps"
  nT : NoAttr K C "_tail"
  nO : NoAttr K C "_offsets"
  mgC : mg "Rule" = some (.ref C)
  len : mg "len" = none
  isi : mg "isinstance" = none
  int : mg "int" = none
  bool : mg "bool" = none
  list : mg "list" = none
  tuple : mg "tuple" = none
  str : mg "str" = none
  all : mg "all" = none
  range : mg "range" = none
  divmod : mg "divmod" = none
  sum : mg "sum" = none
  max : mg "max" = none
  min : mg "min" = none
  sorted : mg "sorted" = none
  set : mg "set" = none
  any : mg "any" = none
  enum : mg "enumerate" = none
  mMost : ∃ t, mg "_MOST_GAPS" = some (.int 20 t)
  mLong : ∃ t, mg "_LONGEST_GAP" = some (.int 1000000000000 t)
  mFact : ∃ t, mg "_GREATEST_FACTOR" = some (.int 1000 t)
  mLast : ∃ t, mg "LAST_GROWING" = some (.int 1000 t)

/-! ### the data -/
/-- a rule's tail -/
inductive Tl where
  | fin
  | times (b : Int)
  | rep (n : Nat)
def Tl.vs : Tl → List V
  | .fin => [.str "end"]
  | .times b => [.str "times", .int b]
  | .rep n => [.str "repeat", .int (n : Int)]
def GapsOk (gs : List Int) : Prop := gs.length ≤ 20 ∧ ∀ g ∈ gs, 1 ≤ g ∧ g ≤ 1000000000000
def TlOk (many : Nat) : Tl → Prop
  | .fin => True
  | .times b => 0 < many ∧ 2 ≤ b ∧ b ≤ 1000
  | .rep n => 1 ≤ n ∧ n ≤ many
/-- the sum of the first k gaps -/
def pre (gs : List Int) (k : Nat) : Int := (gs.take k).sum
def offs (gs : List Int) : List Int := (List.range (gs.length + 1)).map (pre gs)
theorem offs_len (gs : List Int) : (offs gs).length = gs.length + 1 := by simp [offs]
theorem offs_get (gs : List Int) {k : Nat} (h : k ≤ gs.length) : (offs gs)[k]? = some (pre gs k) := by
  unfold offs
  rw [List.getElem?_map, List.getElem?_range (by omega)]
  rfl
theorem pre_zero (gs : List Int) : pre gs 0 = 0 := rfl
theorem pre_succ (gs : List Int) {k : Nat} {g : Int} (h : gs[k]? = some g) : pre gs (k + 1) = pre gs k + g := by
  unfold pre
  rw [List.take_add_one, h, List.sum_append]
  simp
theorem iteFb {b : Bool} {A B : Prop} (e : b = false) (h : B) : if b = true then A else B := by
  rw [e]
  exact iteF h
theorem iteTb {b : Bool} {A B : Prop} (e : b = true) (h : A) : if b = true then A else B := by
  rw [e]
  exact iteT h
theorem yes_t {Q : Bool → Hp → Prop} {σ : L2.St} {H : Hp} (h : Q true H) : tYes σ H Q := h
theorem at_map {xs : List Int} {j : Nat} {v : Int} (h : xs[j]? = some v) : atI (xs.map V.int) (j : Int) = some (.int v) := atI_nat (by rw [List.getElem?_map, h]; rfl)
theorem at_back {α : Type} {xs : List α} {j : Nat} {v : α} (h0 : 0 < j) (hj : j ≤ xs.length) (h : xs[xs.length - j]? = some v) : atI xs (-(j : Int)) = some v := by
  have e : ixN xs.length (-(j : Int)) = some (xs.length - j) := by
    unfold ixN
    rw [if_neg (by omega), if_pos (by omega)]
    congr 1
    omega
  unfold atI
  rw [e]
  exact h
theorem at_back1 {α : Type} {xs : List α} {v : α} (hj : 0 < xs.length) (h : xs[xs.length - 1]? = some v) : atI xs (-1) = some v := at_back (j := 1) (by omega) hj h

section
variable {P : Program} {w : World} {K : PySem.W.Frag} {mg : Str → Option Value} {base : Heap}
/-! ### is_integer -/
def spIsInt : Sp := fun vs H Q _ => ∃ i, vs = [.int i] ∧ Q (.bl true) H
theorem scIsInt : FnScope ["value"] ["value"] (defScope s_is_integer) := ⟨rfl, rfl, rfl, by decide +kernel, rfl, by decide +kernel, by decide +kernel⟩
theorem ok_isInt {f C : Addr} {fd : FuncData} (F : Fun K "is_integer" "is_integer" s_is_integer f fd) (T : Txt K mg C) : FnOk P w K mg base CX0 1 f fd ["value"] spIsInt := by
  refine F.ok scIsInt (fun vs H Q E h => ?_) (fun cdv A outer s H vs Q E hr h => ?_)
  · obtain ⟨i, rfl, _⟩ := h
    rfl
  · obtain ⟨i, rfl, k⟩ := h
    refine ⟨_, pss_one (ps_ret (pe_and (pe_callB call_isi (by rfl) T.isi (by decide +kernel) (pa_cons (pv 0) (pa_cons (pe_bltn (v := .ty "int") (by rfl) T.int (by decide +kernel) rfl) pa_nil))) (pe_one (pe_not (pe_callB call_isi (by rfl) T.isi (by decide +kernel) (pa_cons (pv 0) (pa_cons (pe_bltn (v := .ty "bool") (by rfl) T.bool (by decide +kernel) rfl) pa_nil))))))), ?_⟩
    refine ⟨_, rfl, _, _, _, _, _, rfl, .ty _, .base (.int i), kit_ty (r := true) (by decide +kernel), true, rfl, ?_⟩
    refine iteT ?_
    exact ⟨_, rfl, _, _, _, _, _, rfl, .ty _, .base (.int i), kit_ty (r := false) (by decide +kernel), false, rfl, k⟩

/-! ### _are_gaps -/
def spAreGaps : Sp := fun vs H Q _ => ∃ a gs, ∃ most : Nat, vs = [.ref a, .int (most : Int)] ∧ H a = some (.lst (gs.map V.int)) ∧ GapsOk gs ∧ gs.length ≤ most ∧ ∀ H', Same H H' → Q (.bl true) H'
theorem scAreGaps : FnScope ["value", "most", "gap"] ["value", "most"] (defScope s_are_gaps) := ⟨rfl, rfl, rfl, by decide +kernel, rfl, by decide +kernel, by decide +kernel⟩
theorem ok_areGaps {f C fi : Addr} {fd fdi : FuncData} (F : Fun K "are_gaps" "are_gaps" s_are_gaps f fd) (T : Txt K mg C) (FI : Fun K "is_integer" "is_integer" s_is_integer fi fdi) (bI : Binds K fdi ["value"] []) (mI : mg "is_integer" = some (.ref fi)) : FnOk P w K mg base CX0 2 f fd ["value", "most"] spAreGaps := by
  have GI : FnOk P w K mg base CX0 1 fi fdi ["value"] spIsInt := ok_isInt FI T
  obtain ⟨t2, m2⟩ := T.mLong
  refine F.ok scAreGaps (fun vs H Q E h => ?_) (fun cdv A outer s H vs Q E hr h => ?_)
  · obtain ⟨a, gs, most, rfl, _⟩ := h
    rfl
  · obtain ⟨a, gs, most, rfl, ha, ok, okm, k⟩ := h
    refine ⟨_, (pss_cons (ps_if (PW.pt (pw_or (pt_not (pt_val (pe_callB call_isi (by rfl) T.isi (by decide +kernel) (pa_cons (pv 0) (pa_cons (pe_bltn (v := .ty "list") (by rfl) T.list (by decide +kernel) rfl) pa_nil))))) (pw_or1 (pt_cmpR op_gt (pe_callB call_len_seq (by rfl) T.len (by decide +kernel) (pa_cons (pv 0) pa_nil)) (pv 1) (nomark _))))) (pss_one (ps_ret pe_bl)) pss_nil) (pss_one (ps_ret (pe_callB (cr_all rfl) (by rfl) T.all (by decide +kernel) (pa_cons (pe_lc (own := [("gap", 2)]) (g := gName 2) (tt := tYes) rfl scAreGaps.nd (pi_list (pv 0)) (blkOk_by (own := [("gap", 2)]) (N := ["value", "most", "gap"]) (sc := defScope s_are_gaps) (by decide +kernel))
          (fun _ _ _ _ _ => (pg_name (i := 2) scAreGaps.nd rfl (Or.inl rfl))) (fun _ _ _ _ _ => pts_nil)
          (fun _ _ _ _ _ => pe_and (pe_call GI hr rfl mI FI.kp bI .nil pass0 (pa_cons (pv 2) pa_nil)) (pe_one (pe_chain op_le op_le pe_int (pv 2) (pe_glob (v := .int 1000000000000) rfl m2 ⟨_, rfl⟩))))) pa_nil))))), ?_⟩
    refine ⟨_, rfl, _, _, _, _, _, rfl, .ty _, .base (.lst ha), kit_ty (r := true) (by decide +kernel), true, rfl, ?_⟩
    refine iteF ?_
    refine ⟨_, rfl, a, _, rfl, .inl (SqL.of ha), _, rfl, _, _, rfl, rfl, _, rfl, ?_⟩
    refine iteFb (decide_eq_false (by rw [List.length_map]; omega)) ?_
    refine ⟨_, rfl, a, rfl, ⟨_, SqL.of ha⟩, fun D hD => lc_list (a := a) (xs := gs.map V.int) (fun i H' => Same H H' ∧ H' D = some (.lst ((List.replicate i true).map V.bl))) ⟨?_, upd_same⟩ (fun i H' _ p => p.1.seq (SqL.of ha)) (fun i x H' hx p => ?_) (fun H' p => ?_)⟩
    · intro b o e
      rw [upd_ne (ne_of_none e hD)]
      exact e
    · obtain ⟨g, hg, rfl⟩ : ∃ g, gs[i]? = some g ∧ x = .int g := by
        rw [List.getElem?_map] at hx
        cases e : gs[i]? with
        | none => rw [e] at hx; cases hx
        | some g => rw [e] at hx; exact ⟨g, rfl, (Option.some.inj hx).symm⟩
      have hb := ok.2 g (List.mem_of_getElem? hg)
      have hi : i < gs.length := (List.getElem?_eq_some_iff.mp hg).1
      refine ⟨rfl, ?_⟩
      refine yes_t (iteT ?_)
      refine ⟨_, rfl, g, rfl, true, rfl, iteT ?_⟩
      refine ⟨_, rfl, _, _, rfl, rfl, _, rfl, iteTb (decide_eq_true hb.1) ?_⟩
      refine ⟨_, _, rfl, rfl, _, p.2, ?_, fun b o e => ?_, ?_⟩
      · rw [List.length_map, List.length_replicate]
        exact small1000 (by have := ok.1; omega)
      · rw [upd_ne (ne_of_none e hD)]
        exact p.1 b o e
      · rw [upd_same, List.replicate_succ', List.map_append]
        show some (HO.lst (List.map V.bl (List.replicate i true) ++ [V.bl (decide (g ≤ 1000000000000))])) = _
        rw [decide_eq_true hb.2]
        rfl
    · refine ⟨D, _, rfl, SqL.of p.2, ?_⟩
      have e : (List.replicate (gs.map V.int).length true).all id = true := by
        rw [List.all_eq_true]
        intro x hx
        rw [(List.mem_replicate.mp hx).2]
        rfl
      rw [e]
      exact k H' p.1

/-! ### _is_tail -/
def spIsTail : Sp := fun vs H Q _ => ∃ (t : Addr) (tl : Tl) (n : Nat), vs = [.ref t, .int (n : Int)] ∧ H t = some (.tup tl.vs) ∧ TlOk n tl ∧ ∀ H', Same H H' → Q (.bl true) H'
theorem scIsTail : FnScope ["value", "many"] ["value", "many"] (defScope s_is_tail) := ⟨rfl, rfl, rfl, by decide +kernel, rfl, by decide +kernel, by decide +kernel⟩
theorem same_new {H : Hp} {p : Addr} {o : HO} (h : H p = none) : Same H (upd H p o) := fun b u e => by
  rw [upd_ne (ne_of_none e h)]
  exact e
theorem ok_isTail {f C fi : Addr} {fd fdi : FuncData} (F : Fun K "_is_tail" "_is_tail" s_is_tail f fd) (T : Txt K mg C) (FI : Fun K "is_integer" "is_integer" s_is_integer fi fdi) (bI : Binds K fdi ["value"] []) (mI : mg "is_integer" = some (.ref fi)) : FnOk P w K mg base CX0 2 f fd ["value", "many"] spIsTail := by
  have GI : FnOk P w K mg base CX0 1 fi fdi ["value"] spIsInt := ok_isInt FI T
  obtain ⟨t1, m1⟩ := T.mFact
  refine F.ok scIsTail (fun vs H Q E h => ?_) (fun cdv A outer s H vs Q E hr h => ?_)
  · obtain ⟨t, tl, n, rfl, _⟩ := h
    rfl
  · obtain ⟨t, tl, n, rfl, ht, ok, k⟩ := h
    refine ⟨_, (pss_cons (ps_if (PW.pt (pw_or (pt_not (pt_val (pe_callB call_isi (by rfl) T.isi (by decide +kernel) (pa_cons (pv 0) (pa_cons (pe_bltn (v := .ty "tuple") (by rfl) T.tuple (by decide +kernel) rfl) pa_nil))))) (pw_or1 (pt_cmpR op_notIn_seq (pe_callB call_len_seq (by rfl) T.len (by decide +kernel) (pa_cons (pv 0) pa_nil)) (pe_tup (pa_cons pe_int (pa_cons pe_int pa_nil))) (by rfl))))) (pss_one (ps_ret pe_bl)) pss_nil) (pss_cons (ps_if (pt_not (pt_val (pe_callB call_isi (by rfl) T.isi (by decide +kernel) (pa_cons (pe_ix ix_tup (pv 0) pe_int (fun _ _ => rfl)) (pa_cons (pe_bltn (v := .ty "str") (by rfl) T.str (by decide +kernel) rfl) pa_nil))))) (pss_one (ps_ret pe_bl)) pss_nil) (pss_cons (ps_if (pt_cmpR op_eq (pe_callB call_len_seq (by rfl) T.len (by decide +kernel) (pa_cons (pv 0) pa_nil)) pe_int (nomark _)) (pss_one (ps_ret (pe_cmpR op_eq (pe_ix ix_tup (pv 0) pe_int (fun _ _ => rfl)) pe_str (nomark _)))) pss_nil) (pss_cons (ps_if (pt_not (pt_val (pe_call GI hr rfl mI FI.kp bI .nil pass0 (pa_cons (pe_ix ix_tup (pv 0) pe_int (fun _ _ => rfl)) pa_nil)))) (pss_one (ps_ret pe_bl)) pss_nil) (pss_cons (ps_if (pt_cmpR op_eq (pe_ix ix_tup (pv 0) pe_int (fun _ _ => rfl)) pe_str (nomark _)) (pss_one (ps_ret (pe_and (pe_cmpR op_gt (pv 1) pe_int (nomark _)) (pe_one (pe_chain op_le op_le pe_int (pe_ix ix_tup (pv 0) pe_int (fun _ _ => rfl)) (pe_glob (v := .int 1000) rfl m1 ⟨_, rfl⟩)))))) pss_nil) (pss_one (ps_ret (pe_and (pe_cmpR op_eq (pe_ix ix_tup (pv 0) pe_int (fun _ _ => rfl)) pe_str (nomark _)) (pe_one (pe_chain op_le op_le pe_int (pe_ix ix_tup (pv 0) pe_int (fun _ _ => rfl)) (pv 1))))))))))), ?_⟩
    refine ⟨_, rfl, _, _, _, _, _, rfl, .ty _, .base (.tup ht), kit_ty (r := true) (by decide +kernel), true, rfl, ?_⟩
    refine iteF ?_
    refine ⟨_, rfl, t, _, rfl, .inr (SqT.of ht), by show 2 ≤ sizeLine; decide, fun q hq => ?_⟩
    have hS : Same H (upd H q (.tup [.int 1, .int 2])) := same_new hq
    have ht2 := hS t _ ht
    refine ⟨q, _, rfl, .inr (SqT.of upd_same), rfl, rfl, _, rfl, ?_⟩
    cases tl with
    | fin =>
      refine iteFb (by decide +kernel) ?_
      refine ⟨_, rfl, t, _, _, _, rfl, rfl, SqT.of ht2, atI_nat (j := 0) rfl, _, _, _, _, _, rfl, .ty _, .base (.str _), kit_ty (r := true) (by decide +kernel), true, rfl, iteF ?_⟩
      refine ⟨_, rfl, t, _, rfl, .inr (SqT.of ht2), rfl, _, rfl, iteTb (by decide +kernel) ?_⟩
      refine ⟨_, rfl, t, _, _, _, rfl, rfl, SqT.of ht2, atI_nat (j := 0) rfl, rfl, ?_⟩
      exact k _ hS
    | times b =>
      refine iteFb (by show (!inV (V.int 2) [V.int 1, V.int 2]) = false; decide +kernel) ?_
      refine ⟨_, rfl, t, _, _, _, rfl, rfl, SqT.of ht2, atI_nat (j := 0) rfl, _, _, _, _, _, rfl, .ty _, .base (.str _), kit_ty (r := true) (by decide +kernel), true, rfl, iteF ?_⟩
      refine ⟨_, rfl, t, _, rfl, .inr (SqT.of ht2), rfl, _, rfl, iteFb (by show decide (V.int 2 = V.int 1) = false; decide +kernel) ?_⟩
      refine ⟨_, rfl, t, _, _, _, rfl, rfl, SqT.of ht2, atI_nat (j := 1) rfl, b, rfl, true, rfl, iteF ?_⟩
      refine ⟨_, rfl, t, _, _, _, rfl, rfl, SqT.of ht2, atI_nat (j := 0) rfl, rfl, _, rfl, iteTb (by decide +kernel) ?_⟩
      refine ⟨_, rfl, _, _, rfl, rfl, _, rfl, iteTb (decide_eq_true (by have := ok.1; omega)) ?_⟩
      refine ⟨_, rfl, t, _, _, _, rfl, rfl, SqT.of ht2, atI_nat (j := 1) rfl, _, _, rfl, rfl, _, rfl, iteTb (decide_eq_true ok.2.1) ?_⟩
      refine ⟨_, _, rfl, rfl, ?_⟩
      show Q (.bl (decide (b ≤ 1000))) _
      rw [decide_eq_true ok.2.2]
      exact k _ hS
    | rep m =>
      refine iteFb (by show (!inV (V.int 2) [V.int 1, V.int 2]) = false; decide +kernel) ?_
      refine ⟨_, rfl, t, _, _, _, rfl, rfl, SqT.of ht2, atI_nat (j := 0) rfl, _, _, _, _, _, rfl, .ty _, .base (.str _), kit_ty (r := true) (by decide +kernel), true, rfl, iteF ?_⟩
      refine ⟨_, rfl, t, _, rfl, .inr (SqT.of ht2), rfl, _, rfl, iteFb (by show decide (V.int 2 = V.int 1) = false; decide +kernel) ?_⟩
      refine ⟨_, rfl, t, _, _, _, rfl, rfl, SqT.of ht2, atI_nat (j := 1) rfl, _, rfl, true, rfl, iteF ?_⟩
      refine ⟨_, rfl, t, _, _, _, rfl, rfl, SqT.of ht2, atI_nat (j := 0) rfl, rfl, _, rfl, iteFb (by decide +kernel) ?_⟩
      refine ⟨_, rfl, t, _, _, _, rfl, rfl, SqT.of ht2, atI_nat (j := 0) rfl, rfl, true, by decide +kernel, iteT ?_⟩
      refine ⟨_, rfl, t, _, _, _, rfl, rfl, SqT.of ht2, atI_nat (j := 1) rfl, _, _, rfl, rfl, _, rfl, iteTb (decide_eq_true (by have := ok.1; omega)) ?_⟩
      refine ⟨_, rfl, _, _, rfl, rfl, ?_⟩
      show Q (.bl (decide (((m : Nat) : Int) ≤ (n : Int)))) _
      rw [decide_eq_true (show ((m : Nat) : Int) ≤ (n : Int) by have := ok.2; omega)]
      exact k _ hS
end
end RS
/-! ### comprehensions that only make values -/
namespace L2
open PySem PySem.Spec PyProof.Rows
/-- what the first i turns have made -/
def selTo (sel : Nat → Option V) (i : Nat) : List V := (List.range i).filterMap sel
theorem selTo_succ (sel : Nat → Option V) (i : Nat) : selTo sel (i + 1) = selTo sel i ++ (sel i).toList := by
  unfold selTo
  rw [List.range_succ, List.filterMap_append]
  cases h : sel i <;> simp [h]
theorem selTo_le (sel : Nat → Option V) (i : Nat) : (selTo sel i).length ≤ i := by
  unfold selTo
  have := List.length_filterMap_le sel (List.range i)
  rw [List.length_range] at this
  exact this
theorem selTo_get (ys : List V) : ∀ i, i ≤ ys.length → selTo (fun j : Nat => ys[j]?) i = ys.take i
  | 0, _ => rfl
  | i + 1, h => by
    rw [selTo_succ, selTo_get ys i (by omega), List.take_add_one]
theorem same_app {H1 H : Hp} {D : Addr} {o : HO} (hD : H1 D = none) (S : Same H1 H) : Same H1 (upd H D o) := fun b u e => by
  rw [upd_ne (ne_of_none e hD)]
  exact S b u e
theorem small_line {n : Nat} (h : n ≤ 100000) : n < sizeLine := Nat.lt_of_le_of_lt h (by decide +kernel)
/-- xs[i] in a block, K written -/
theorem pe_ixK {X : Cx} (K : PySem.W.Frag) (hK : X.K = K) {o i : Expr} {to ti : TE} {pos : Pos} (ho : PE X o to) (hi : PE X i ti) (hp : PlainIx i := by exact fun _ _ => rfl) : PE X (.Subscript o i pos) (tOp (rIxL K) to ti) := by
  subst hK
  exact pe_ix ix_list ho hi hp
theorem pe_ixTK {X : Cx} (K : PySem.W.Frag) (hK : X.K = K) {o i : Expr} {to ti : TE} {pos : Pos} (ho : PE X o to) (hi : PE X i ti) (hp : PlainIx i := by exact fun _ _ => rfl) : PE X (.Subscript o i pos) (tOp (rIxT K) to ti) := by
  subst hK
  exact pe_ix ix_tup ho hi hp
section
variable {X : Cx} {e tg : Expr} {te : TE} {p pos : Pos}
theorem pi_listK (K : PySem.W.Frag) (hK : X.K = K) (h : PE X e te) : PI X tg e (iList K te) := by
  subst hK
  exact pi_list h
theorem pi_tupK (K : PySem.W.Frag) (hK : X.K = K) (h : PE X e te) : PI X tg e (iTup K te) := by
  subst hK
  exact pi_tup h
theorem pe_allK (K : PySem.W.Frag) (hK : X.K = K) (hc : X.calm = true) (hg : Gl X "all") (hm : X.mg "all" = none) (ha : PE X e te) (hs : starEach [e] X.env = (false, eval e X.env) :: starEach [] X.env := by rfl) : PE X (.Call (.Name "all" p) [e] [] pos) (tCB (rAll K) (tCons te tNil)) := by
  subst hK
  exact pe_callB (cr_all hc) hg hm (by decide +kernel) (pa_cons ha pa_nil hs) (he := hs)
theorem pe_minK (K : PySem.W.Frag) (hK : X.K = K) (hc : X.calm = true) (hg : Gl X "min") (hm : X.mg "min" = none) (ha : PE X e te) (hs : starEach [e] X.env = (false, eval e X.env) :: starEach [] X.env := by rfl) : PE X (.Call (.Name "min" p) [e] [] pos) (tCB (rMin K) (tCons te tNil)) := by
  subst hK
  exact pe_callB (cr_min hc) hg hm (by decide +kernel) (pa_cons ha pa_nil hs) (he := hs)
end
section
variable {K : PySem.W.Frag} {a : Addr} {xs : List V} {g : TG} {tt : TT} {te : TE} {vs : List Nat} {σ : St} {H1 : Hp} {D : Addr} {Qd : Hp → Prop}
/-- over a list: turn i makes sel i, or nothing -/
theorem lc_sel (sel : Nat → Option V) (hx : SqL K H1 a xs) (hD : H1 D = none) (hn : xs.length ≤ 100000)
    (hs : ∀ (i : Nat) (x : V) (H : Hp) (Q : Option V → Hp → Prop), xs[i]? = some x → Same H1 H → (∀ H', Same H H' → Q (sel i) H') → g x (wipe σ vs) H fun σ2 H2 => wipe σ2 vs = wipe σ vs ∧ tt σ2 H2 fun b H3 =>
      if b = true then te σ2 H3 fun y H4 => Q (some y) H4 else Q none H3)
    (hd : ∀ H, Same H1 H → H D = some (.lst (selTo sel xs.length)) → Qd H) :
    ∃ W : Nat → Nat → Hp → Prop, (∃ m, W 0 m (upd H1 D (.lst []))) ∧ ∀ i m H, W i m H →
      ((Itl K a).stop i H ∧ Qd H) ∨ ((Itl K a).go i H ∧ ∃ Nx : Hp → Prop, (∀ H', Nx H' → ∃ m', m' < m ∧ W (i + 1) m' H') ∧ ∀ x H', (Itl K a).yld i H x H' → g x (wipe σ vs) H' fun σ2 H2 => wipe σ2 vs = wipe σ vs ∧ tt σ2 H2 fun b H3 =>
        if b = true then te σ2 H3 fun y H4 => ∃ acc, H4 D = some (.lst acc) ∧ acc.length < sizeLine ∧ Nx (upd H4 D (.lst (acc ++ [y]))) else Nx H3) := by
  refine lc_list (a := a) (xs := xs) (fun i H => i ≤ xs.length ∧ Same H1 H ∧ H D = some (.lst (selTo sel i))) ⟨Nat.zero_le _, same_app hD (fun _ _ e => e), upd_same⟩ (fun i H _ p => p.2.1.seq hx) (fun i x H hi p => ?_) (fun H p => hd H p.2.1 p.2.2)
  have hlt : i < xs.length := (List.getElem?_eq_some_iff.mp hi).1
  refine hs i x H (fun o H' => match o with | some y => ∃ acc, H' D = some (.lst acc) ∧ acc.length < sizeLine ∧ (i + 1 ≤ xs.length ∧ Same H1 (upd H' D (.lst (acc ++ [y]))) ∧ upd H' D (.lst (acc ++ [y])) D = some (.lst (selTo sel (i + 1)))) | none => i + 1 ≤ xs.length ∧ Same H1 H' ∧ H' D = some (.lst (selTo sel (i + 1)))) hi p.2.1 (fun H' S => ?_)
  have hl := selTo_le sel i
  rw [selTo_succ]
  cases sel i with
  | none => exact ⟨hlt, p.2.1.trans S, by simpa using S _ _ p.2.2⟩
  | some y => exact ⟨_, S _ _ p.2.2, small_line (by omega), hlt, same_app hD (p.2.1.trans S), upd_same⟩
/-- over a range -/
theorem lc_selR {lo : Int} {n : Nat} (sel : Nat → Option V) (hD : H1 D = none) (hn : n ≤ 100000)
    (hs : ∀ (i : Nat) (H : Hp) (Q : Option V → Hp → Prop), i < n → Same H1 H → (∀ H', Same H H' → Q (sel i) H') → g (.int (lo + i)) (wipe σ vs) H fun σ2 H2 => wipe σ2 vs = wipe σ vs ∧ tt σ2 H2 fun b H3 =>
      if b = true then te σ2 H3 fun y H4 => Q (some y) H4 else Q none H3)
    (hd : ∀ H, Same H1 H → H D = some (.lst (selTo sel n)) → Qd H) :
    ∃ W : Nat → Nat → Hp → Prop, (∃ m, W 0 m (upd H1 D (.lst []))) ∧ ∀ i m H, W i m H →
      ((Itr lo n).stop i H ∧ Qd H) ∨ ((Itr lo n).go i H ∧ ∃ Nx : Hp → Prop, (∀ H', Nx H' → ∃ m', m' < m ∧ W (i + 1) m' H') ∧ ∀ x H', (Itr lo n).yld i H x H' → g x (wipe σ vs) H' fun σ2 H2 => wipe σ2 vs = wipe σ vs ∧ tt σ2 H2 fun b H3 =>
        if b = true then te σ2 H3 fun y H4 => ∃ acc, H4 D = some (.lst acc) ∧ acc.length < sizeLine ∧ Nx (upd H4 D (.lst (acc ++ [y]))) else Nx H3) := by
  refine lc_range (fun i H => i ≤ n ∧ Same H1 H ∧ H D = some (.lst (selTo sel i))) ⟨Nat.zero_le _, same_app hD (fun _ _ e => e), upd_same⟩ (fun i H hlt p => ?_) (fun H p => hd H p.2.1 p.2.2)
  refine hs i H (fun o H' => match o with | some y => ∃ acc, H' D = some (.lst acc) ∧ acc.length < sizeLine ∧ (i + 1 ≤ n ∧ Same H1 (upd H' D (.lst (acc ++ [y]))) ∧ upd H' D (.lst (acc ++ [y])) D = some (.lst (selTo sel (i + 1)))) | none => i + 1 ≤ n ∧ Same H1 H' ∧ H' D = some (.lst (selTo sel (i + 1)))) hlt p.2.1 (fun H' S => ?_)
  have hl := selTo_le sel i
  rw [selTo_succ]
  cases sel i with
  | none => exact ⟨hlt, p.2.1.trans S, by simpa using S _ _ p.2.2⟩
  | some y => exact ⟨_, S _ _ p.2.2, small_line (by omega), hlt, same_app hD (p.2.1.trans S), upd_same⟩
theorem yes_ite {te : TE} {F : V → Hp → Prop} {N : Hp → Prop} {σ : St} {H : Hp} : (tYes σ H fun b H3 => if b = true then te σ H3 F else N H3) = te σ H F := by simp [tYes]
/-- over a list, without a test: the values ys -/
theorem lc_map (ys : List V) (hx : SqL K H1 a xs) (hD : H1 D = none) (hl : ys.length = xs.length) (hn : xs.length ≤ 100000)
    (hs : ∀ (i : Nat) (x y : V) (H : Hp) (Q : V → Hp → Prop), xs[i]? = some x → ys[i]? = some y → Same H1 H → (∀ H', Same H H' → Q y H') → g x (wipe σ vs) H fun σ2 H2 => wipe σ2 vs = wipe σ vs ∧ te σ2 H2 Q)
    (hd : ∀ H, Same H1 H → H D = some (.lst ys) → Qd H) :
    ∃ W : Nat → Nat → Hp → Prop, (∃ m, W 0 m (upd H1 D (.lst []))) ∧ ∀ i m H, W i m H →
      ((Itl K a).stop i H ∧ Qd H) ∨ ((Itl K a).go i H ∧ ∃ Nx : Hp → Prop, (∀ H', Nx H' → ∃ m', m' < m ∧ W (i + 1) m' H') ∧ ∀ x H', (Itl K a).yld i H x H' → g x (wipe σ vs) H' fun σ2 H2 => wipe σ2 vs = wipe σ vs ∧ tYes σ2 H2 fun b H3 =>
        if b = true then te σ2 H3 fun y H4 => ∃ acc, H4 D = some (.lst acc) ∧ acc.length < sizeLine ∧ Nx (upd H4 D (.lst (acc ++ [y]))) else Nx H3) := by
  refine lc_sel (fun j : Nat => ys[j]?) hx hD hn (fun i x H Q hi S q => ?_) (fun H S h => hd H S (by rw [← hl, selTo_get ys _ (Nat.le_refl _), List.take_length] at h; exact h))
  have hlt : i < xs.length := (List.getElem?_eq_some_iff.mp hi).1
  have hy : ys[i]? = some ys[i] := List.getElem?_eq_getElem (by omega)
  simp only [yes_ite]
  exact hs i x _ H (fun y H' => Q (some y) H') hi hy S fun H' S' => hy ▸ q H' S'
theorem lc_mapR {lo : Int} {n : Nat} (ys : List V) (hD : H1 D = none) (hl : ys.length = n) (hn : n ≤ 100000)
    (hs : ∀ (i : Nat) (y : V) (H : Hp) (Q : V → Hp → Prop), i < n → ys[i]? = some y → Same H1 H → (∀ H', Same H H' → Q y H') → g (.int (lo + i)) (wipe σ vs) H fun σ2 H2 => wipe σ2 vs = wipe σ vs ∧ te σ2 H2 Q)
    (hd : ∀ H, Same H1 H → H D = some (.lst ys) → Qd H) :
    ∃ W : Nat → Nat → Hp → Prop, (∃ m, W 0 m (upd H1 D (.lst []))) ∧ ∀ i m H, W i m H →
      ((Itr lo n).stop i H ∧ Qd H) ∨ ((Itr lo n).go i H ∧ ∃ Nx : Hp → Prop, (∀ H', Nx H' → ∃ m', m' < m ∧ W (i + 1) m' H') ∧ ∀ x H', (Itr lo n).yld i H x H' → g x (wipe σ vs) H' fun σ2 H2 => wipe σ2 vs = wipe σ vs ∧ tYes σ2 H2 fun b H3 =>
        if b = true then te σ2 H3 fun y H4 => ∃ acc, H4 D = some (.lst acc) ∧ acc.length < sizeLine ∧ Nx (upd H4 D (.lst (acc ++ [y]))) else Nx H3) := by
  refine lc_selR (fun j : Nat => ys[j]?) hD hn (fun i H Q hlt S q => ?_) (fun H S h => hd H S (by rw [← hl, selTo_get ys _ (Nat.le_refl _), List.take_length] at h; exact h))
  have hy : ys[i]? = some ys[i] := List.getElem?_eq_getElem (by omega)
  simp only [yes_ite]
  exact hs i _ H (fun y H' => Q (some y) H') hlt hy S fun H' S' => hy ▸ q H' S'
end
end L2
/-! ### set(xs) of a list of ints -/
namespace L2
open PySem PySem.Spec PyProof.Rows
def eset (w : World) : Obj := { cls := .type "set", dict := none, data := .set #[] 0 (.fresh 0 0 (!w.params.followText "set-order")) }
section
variable {P : Program} {w : World} {A : Around} {E : Value → Shared → Prop} {s : Shared}
set_option maxHeartbeats 4000000 in
theorem set_from {l : Addr} {its : Array Value} (zs : List Int) {Q : Value → Shared → Prop} (calm : A.handled = none) (isl : s.heap.IsList l its) (hz : IntsAre its.toList zs) (few : zs.length + 1 < scanBound)
    (fin : ∀ (g : Heap) (tt n : Nat), SetR w g s.heap.objs.size (fun j => decide (j ∈ zs)) n → n ≤ zs.length → (∀ b o, s.heap.get? b = some o → g.get? b = some o) → Q (.ref s.heap.objs.size) { s with heap := g, toks := tt }) :
    wpAny (model P w) A (call (.type "set") [.ref l]) Q E s := by
  have many : its.size = zs.length := by simpa using IntsAre.length hz
  have k1 := F.called_set
  obtain ⟨cc, tll, mroS⟩ := k1.mro
  have m1 := k1.made; have m2 := k1.sub; have m3 := k1.notType; have m4 := k1.canCreate; have m5 := F.typeCall_set_1 (.ref l)
  refine wpAny_call (codeAny_of_tree (show wpAny _ _ (callAny (.type "set") _) _ _ _ from wpAny_pure ⟨Code.quiet_builtin _ (by decide +kernel), codeAny_builtin F.entry_type_call ?_⟩))
  rw [Around.under_plain (weight_type_call_type "set" [.ref l] []) rfl]
  repeat (any_goals (first | assumption | wp_step))
  refine codeAny_mono (code_set_led1 (.ref l) (E := E) (Q₁ := fun ob t => ob = .ref s.heap.objs.size ∧ t = { s with heap := s.heap.push (eset w) }) ⟨rfl, rfl⟩) fun out t1 told => ?_
  match out, told with
  | .error _, told => exact told
  | .ok .next, told => exact told.elim
  | .ok .brk, told => exact told.elim
  | .ok .cont, told => exact told.elim
  | .ok (.ret ob), ⟨eo, et⟩ =>
    subst eo et
    have atS : (s.heap.push (eset w)).get? s.heap.objs.size = some (eset w) := Heap.get?_push_size _ rfl
    have tyS : Shared.TypeIs { s with heap := s.heap.push (eset w) } (.ref s.heap.objs.size) "set" := ⟨_, atS, rfl⟩
    have n1 := k1.init.lookup; have n2 := k1.init.bind (.ref s.heap.objs.size)
    repeat (any_goals (first | assumption | wp_step))
    refine codeAny_mono (codeAny_call_builtin (R := wants (fun r t => r = .none ∧ ∃ g tt n, t = { s with heap := g, toks := tt } ∧ SetR w g s.heap.objs.size (fun j => decide (j ∈ zs)) n ∧ n ≤ zs.length ∧ ∀ b o, s.heap.get? b = some o → g.get? b = some o) E) k1.init.plain F.entry_set_init (check_set_init_1 tyS ?_)) fun out t2 told => ?_
    · obtain ⟨⟨oc, od, odt, osl⟩, atL, cl, nn, dt⟩ := isl
      simp only at cl dt
      subst cl dt
      have atL1 : (s.heap.push (eset w)).get? l = some { cls := .type "list", dict := od, data := .seq its nn, slots := osl } := Heap.get?_push_of_some _ atL
      have q1 := F.sub_list_set; have q2 := F.sub_list_frozenset
      have q3 : (Value.type "list" == Value.type "dict") = false := by decide
      have isl1 : (s.heap.push (eset w)).IsList l its := ⟨_, atL1, rfl, nn, rfl⟩
      unfold Builtin.«set.__init__» noKeywords Builtin.Frozenset.updateFrom
      generalize eP : pyIter = PP
      wp_walk
      subst eP
      refine wpAny_pyIter_list isl1 (wpAny_bind (wpAny_runValue ?_))
      have lo : l < s.heap.objs.size := Heap.lt_size atL
      have sz : (s.heap.push (eset w)).objs.size = s.heap.objs.size + 1 := Heap.size_push ..
      have calm3 : A.in1.in1.in1.handled = none := by simp [calm]
      have d1 : l ≠ (s.heap.push (eset w)).objs.size := by rw [sz]; exact Nat.ne_of_lt (Nat.lt_succ_of_lt lo)
      have d2 : s.heap.objs.size ∉ [(s.heap.push (eset w)).objs.size, l] := by
        rw [sz]
        simp only [List.mem_cons, List.not_mem_nil, or_false, not_or]
        exact ⟨Nat.ne_of_lt (Nat.lt_succ_self _), (Nat.ne_of_lt lo).symm⟩
      have vals : ∀ (i : Nat) (v : Value), its[i]? = some v → ∃ k t, zs[i]? = some k ∧ v = .int k t := fun i v hv => by
        have lt : i < zs.length := many ▸ (Array.getElem?_eq_some_iff.mp hv).1
        obtain ⟨t, ev⟩ := IntsAre.int_at hz i v (by simpa using hv)
        exact ⟨zs[i], t, List.getElem?_eq_getElem lt, by rw [ev, List.getD_eq_getElem?_getD, List.getElem?_eq_getElem lt] <;> rfl⟩
      refine set_update_ints ((Walks.list calm3 _ l d1 its).toS) s.heap.objs.size d2 zs many few vals (its.size - 0) 0 _ (by omega) (Nat.zero_le _) ⟨⟨_, Heap.get?_push_size _ rfl, rfl, rfl⟩, isl1.push _⟩ ⟨0, Nat.le_refl 0, setR_new_at (Heap.get?_push_of_some _ atS)⟩ fun t n mv hn R => ?_
      obtain ⟨g, gn, dr, tt, os⟩ := t
      obtain rfl : gn = s.gens := mv.gens
      obtain rfl : dr = s.drawn := mv.drawn
      obtain rfl : os = s.os := mv.os
      show wpAny _ _ _ _ _ _
      refine wpAny_pure (show wpAny _ _ (ret Value.none) _ _ _ from wpAny_pure ⟨rfl, g, tt, n, rfl, R, many ▸ hn, fun b o e => ?_⟩)
      have hb := Heap.lt_size e
      refine mv.heap b o ?_ (Heap.get?_push_of_some _ (Heap.get?_push_of_some _ e))
      simp only [List.mem_cons, List.not_mem_nil, or_false, not_or]
      rw [sz]
      exact ⟨Nat.ne_of_lt hb, Nat.ne_of_lt (Nat.lt_succ_of_lt hb)⟩
    · match out, told with
      | .error _, told => exact told
      | .ok .next, told => exact told.elim
      | .ok .brk, told => exact told.elim
      | .ok .cont, told => exact told.elim
      | .ok (.ret _), ⟨e1, g, tt, n, e2, R, hn, kp⟩ =>
        subst e1 e2
        repeat (any_goals (first | assumption | wp_step))
        exact fin _ _ _ R hn kp
end
section
variable {X : Cx}
def rSetOfL (K : PySem.W.Frag) (w : World) : List V → Hp → VK → Prop := fun xs H Q => ∃ (l : Addr) (ns : List Int), xs = [.ref l] ∧ SqL K H l (ns.map V.int) ∧ ns.length ≤ 4000 ∧ ∀ p n, H p = none → n ≤ ns.length → Q (.ref p) (upd H p (SetO w p (fun j => decide (j ∈ ns)) n))
theorem cr_setL (hc : X.calm = true) : CallR X (.type "set") (rSetOfL X.K X.w) := by
  intro pins s σ H xs us Q I r h
  obtain ⟨l, ns, rfl, hs, hn, q⟩ := h
  obtain ⟨its, rv, hl, _⟩ := I.list hs
  rw [Vals.ref1 r]
  refine set_from ns (I.ok.hd hc) hl.isList (by simpa using rv.ints) (by unfold scanBound; omega) fun g tt n R hle kp => ?_
  exact ⟨.ref _, upd H s.heap.objs.size (SetO X.w s.heap.objs.size (fun j => decide (j ∈ ns)) n), I.laid (t' := tt) kp (Nat.le_refl _) (setO_new R), rfl, q _ _ (I.hok.fresh (Nat.le_refl _)) hle⟩
end
end L2
namespace RS
open PySem L2
theorem kGT : ¬ (("_gaps" : Str) = "_tail") := by decide +kernel
theorem kGO : ¬ (("_gaps" : Str) = "_offsets") := by decide +kernel
theorem kTO : ¬ (("_tail" : Str) = "_offsets") := by decide +kernel
def flds (g t o : Addr) : List (Str × V) := putF "_offsets" (.ref o) (putF "_tail" (.ref t) (putF "_gaps" (.ref g) []))
theorem flds_g (g t o : Addr) : (flds g t o).lookup ("_gaps" : Str) = some (.ref g) := by
  unfold flds
  rw [lookup_putF, if_neg kGO, lookup_putF, if_neg kGT, lookup_putF, if_pos rfl]
theorem flds_t (g t o : Addr) : (flds g t o).lookup ("_tail" : Str) = some (.ref t) := by
  unfold flds
  rw [lookup_putF, if_neg kTO, lookup_putF, if_pos rfl]
theorem flds_o (g t o : Addr) : (flds g t o).lookup ("_offsets" : Str) = some (.ref o) := by
  unfold flds
  rw [lookup_putF, if_pos rfl]
theorem flds_no (g t o : Addr) {m : Str} (h1 : ¬ m = "_offsets") (h2 : ¬ m = "_tail") (h3 : ¬ m = "_gaps") : (flds g t o).lookup m = none := by
  unfold flds
  rw [lookup_putF, if_neg h1, lookup_putF, if_neg h2, lookup_putF, if_neg h3]
  rfl
/-- a rule stands at p -/
structure RuleAt (C : Addr) (H : Hp) (p g t o : Addr) (gs : List Int) (tl : Tl) : Prop where
  ob : ∃ dx, H p = some (.ins C dx (flds g t o))
  hg : H g = some (.lst (gs.map V.int))
  ht : H t = some (.tup tl.vs)
  ho : H o = some (.lst ((offs gs).map V.int))
  okG : GapsOk gs
  okT : TlOk gs.length tl
theorem RuleAt.mono {C : Addr} {H H' : Hp} {p g t o : Addr} {gs : List Int} {tl : Tl} (R : RuleAt C H p g t o gs tl) (h : Same H H') : RuleAt C H' p g t o gs tl :=
  ⟨let ⟨dx, e⟩ := R.ob; ⟨dx, h _ _ e⟩, h _ _ R.hg, h _ _ R.ht, h _ _ R.ho, R.okG, R.okT⟩
theorem map_of {xs : List Int} {i : Nat} {x : V} (hx : (xs.map V.int)[i]? = some x) : ∃ g, xs[i]? = some g ∧ x = .int g := by
  rw [List.getElem?_map] at hx
  cases e : xs[i]? with
  | none => rw [e] at hx; cases hx
  | some g => rw [e] at hx; exact ⟨g, rfl, (Option.some.inj hx).symm⟩

section
variable {P : Program} {w : World} {K : PySem.W.Frag} {mg : Str → Option Value} {base : Heap}
/-! ### _sums -/
def spSums : Sp := fun vs H Q _ => ∃ a gs, vs = [.ref a] ∧ H a = some (.lst (gs.map V.int)) ∧ gs.length ≤ 100 ∧ ∀ p H', H p = none → Same H H' → H' p = some (.lst ((offs gs).map V.int)) → Q (.ref p) H'
theorem scSums : FnScope ["gaps", "offsets", "gap"] ["gaps"] (defScope s_sums) := ⟨rfl, rfl, rfl, by decide +kernel, rfl, by decide +kernel, by decide +kernel⟩
theorem ok_sums {f : Addr} {fd : FuncData} (F : Fun K "sums" "sums" s_sums f fd) : FnOk P w K mg base CX0 1 f fd ["gaps"] spSums := by
  refine F.ok scSums (fun vs H Q E h => ?_) (fun cdv A outer s H vs Q E hr h => ?_)
  · obtain ⟨a, gs, rfl, _⟩ := h
    rfl
  · obtain ⟨a, gs, rfl, ha, hn, k⟩ := h
    refine ⟨_, (pss_cons (ps_set (i := 1) scSums.nd rfl (Or.inl rfl) (pe_lst (pa_cons pe_int pa_nil))) (pss_cons (ps_for PassesOwn.never rfl (pi_list (pv 0)) (pg_name (i := 2) scSums.nd rfl (Or.inl rfl)) (pss_one (ps_expr (pe_bm PySem.F.plainAttrs_list PySem.F.slot_list_append PySem.F.type_list_append mt_append (pv 1) (pa_cons (pe_op op_add (pe_ix ix_list (pv 1) (pe_un un_neg pe_int) (fun _ _ => rfl)) (pv 2)) pa_nil))))) (pss_one (ps_ret (pv 1))))), ?_⟩
    refine ⟨by show 1 ≤ sizeLine; decide, fun l hl => ?_⟩
    have S0 : Same H (upd H l (.lst [.int 0])) := same_new hl
    refine ⟨_, rfl, a, rfl, ⟨_, SqL.of (S0 _ _ ha)⟩, for_list (a := a) (xs := gs.map V.int) (fun i σ H' => ∃ v, σ = [some (.ref a), some (.ref l), v] ∧ Same H H' ∧ H' l = some (.lst (((List.range (i + 1)).map (pre gs)).map V.int))) ⟨none, rfl, S0, upd_same⟩ (fun i σ H' _ ⟨v, _, S, _⟩ => SqL.of (S _ _ ha)) ?_ ?_⟩
    · rintro i x σ H' hx ⟨v, rfl, S, hl'⟩
      obtain ⟨g, hg, rfl⟩ := map_of hx
      have hi : i < gs.length := (List.getElem?_eq_some_iff.mp hg).1
      have hz : (((List.range (i + 1)).map (pre gs)).map V.int).length = i + 1 := by simp
      refine ⟨_, rfl, .inl ⟨rfl, _, SqL.of hl'⟩, _, rfl, _, rfl, l, _, _, _, rfl, rfl, SqL.of hl', at_back1 (v := .int (pre gs i)) (by rw [hz]; omega) ?_, _, rfl, _, _, rfl, rfl, l, _, _, rfl, rfl, hl', by rw [hz]; exact small1000 (by omega), ?_⟩
      · rw [hz, List.getElem?_map, List.getElem?_map, List.getElem?_range (by omega)]
        rfl
      · refine ⟨_, rfl, fun b o e => ?_, ?_⟩
        · rw [upd_ne (ne_of_none e hl)]
          exact S b o e
        · rw [upd_same, List.range_succ (n := i + 1), List.map_append, List.map_append]
          show _ = some (HO.lst (_ ++ [V.int (pre gs (i + 1))]))
          rw [pre_succ gs hg]
    · rintro σ H' ⟨v, rfl, S, hl'⟩
      rw [List.length_map] at hl'
      exact ⟨_, rfl, k l H' hl S hl'⟩

/-! ### _power -/
def spPower : Sp := fun vs H Q _ => ∃ (b : Int) (e : Nat), vs = [.int b, .int (e : Int)] ∧ 0 ≤ b ∧ b < 1024 ∧ e ≤ 1024 ∧ Q (.int (b ^ e)) H
theorem scPower : FnScope ["base", "exponent", "result"] ["base", "exponent"] (defScope s_power) := ⟨rfl, rfl, rfl, by decide +kernel, rfl, by decide +kernel, by decide +kernel⟩
theorem pow_small {b : Int} {n : Nat} (h0 : 0 ≤ b) (h1 : b < 1024) (hn : n ≤ 2048) : (b ^ n).natAbs < 2 ^ 20481 := by
  rw [Int.natAbs_pow]
  have h2 : b.natAbs ≤ 2 ^ 10 := by omega
  have h3 : b.natAbs ^ n ≤ (2 ^ 10) ^ n := Nat.pow_le_pow_left h2 n
  rw [← Nat.pow_mul] at h3
  have h4 : 2 ^ (10 * n) < 2 ^ 20481 := Nat.pow_lt_pow_right (by decide) (by omega)
  omega
theorem half_mod (e k : Nat) : e % 2 ^ (k + 1) = e % 2 ^ k + 2 ^ k * (e / 2 ^ k % 2) := by
  rw [Nat.pow_succ, Nat.mod_mul]
theorem half_div (e k : Nat) : e / 2 ^ k / 2 = e / 2 ^ (k + 1) := by
  rw [Nat.pow_succ, Nat.div_div_eq_div_mul]
theorem ok_power {f : Addr} {fd : FuncData} (F : Fun K "_power" "_power" s_power f fd) : FnOk P w K mg base CX0 1 f fd ["base", "exponent"] spPower := by
  refine F.ok scPower (fun vs H Q E h => ?_) (fun cdv A outer s H vs Q E hr h => ?_)
  · obtain ⟨b, e, rfl, _⟩ := h
    rfl
  · obtain ⟨b, e, rfl, b0, b1, he, k⟩ := h
    refine ⟨_, (pss_cons (ps_set (i := 2) scPower.nd rfl (Or.inl rfl) pe_int) (pss_cons (ps_while PassesOwn.never (pt_cmpR op_gt (pv 1) pe_int (nomark _)) (pss_cons (ps_if (pt_cmpR op_eq (pe_op op_odd (pv 1) pe_int) pe_int (nomark _)) (pss_one (ps_set (i := 2) scPower.nd rfl (Or.inl rfl) (pe_op op_mulW (pv 2) (pv 0)))) pss_nil) (pss_cons (ps_set (i := 0) scPower.nd rfl (Or.inl rfl) (pe_op op_mulW (pv 0) (pv 0))) (pss_one (ps_set (i := 1) scPower.nd rfl (Or.inl rfl) (pe_op op_halfN (pv 1) pe_int)))))) (pss_one (ps_ret (pv 2))))), ?_⟩
    refine ⟨fun m σ H' => H' = H ∧ ∃ j, m = e / 2 ^ j ∧ σ = [some (.int (b ^ (2 ^ j))), some (.int ((e / 2 ^ j : Nat) : Int)), some (.int (b ^ (e % 2 ^ j)))], ⟨e, rfl, 0, by simp, by simp [L2.start, Nat.mod_one]; rw [Int.pow_succ, Int.pow_zero, Int.one_mul]⟩, ?_⟩
    rintro m σ H' ⟨rfl, j, rfl, rfl⟩
    refine ⟨_, rfl, _, _, rfl, rfl, _, rfl, ?_⟩
    by_cases hz : 0 < e / 2 ^ j
    · refine iteTb (decide_eq_true (by omega)) ?_
      have hj : 2 ^ j ≤ e := by
        by_cases hlt : e < 2 ^ j
        · rw [Nat.div_eq_of_lt hlt] at hz; omega
        · omega
      have hj1 : (b ^ (2 ^ j)).natAbs < 2 ^ 20481 := pow_small b0 b1 (by omega)
      have hm : e % 2 ^ j < 2 ^ j := Nat.mod_lt _ (Nat.pow_pos (by decide))
      have hr1 : (b ^ (e % 2 ^ j)).natAbs < 2 ^ 20481 := pow_small b0 b1 (by omega)
      refine ⟨fun σ' H2 => H2 = H' ∧ σ' = [some (.int (b ^ (2 ^ (j + 1)))), some (.int ((e / 2 ^ (j + 1) : Nat) : Int)), some (.int (b ^ (e % 2 ^ (j + 1))))], ?_, ?_⟩
      · rintro σ' H2 ⟨rfl, rfl⟩
        refine ⟨e / 2 ^ (j + 1), ?_, rfl, j + 1, rfl, rfl⟩
        rw [← half_div]
        omega
      · have e2 : b ^ 2 ^ j * b ^ 2 ^ j = b ^ 2 ^ (j + 1) := by
          rw [← Int.pow_add, Nat.pow_succ, Nat.mul_two]
        refine ⟨_, rfl, e / 2 ^ j, rfl, rfl, rfl, _, rfl, ?_⟩
        rcases Nat.mod_two_eq_zero_or_one (e / 2 ^ j) with h2 | h2
        · refine iteFb (decide_eq_false (by rw [h2]; intro z; cases z)) ?_
          refine ⟨_, rfl, _, rfl, _, _, rfl, rfl, wide_mul hj1 hj1 (by decide) (by decide) (by decide), ?_⟩
          refine ⟨_, rfl, e / 2 ^ j, rfl, rfl, rfl, ?_⟩
          rw [half_mod, h2, Nat.mul_zero, Nat.add_zero, ← half_div, ← e2]
          rfl
        · refine iteTb (decide_eq_true (by rw [h2]; rfl)) ?_
          refine ⟨_, rfl, _, rfl, _, _, rfl, rfl, wide_mul hr1 hj1 (by decide) (by decide) (by decide), ?_⟩
          refine ⟨_, rfl, _, rfl, _, _, rfl, rfl, wide_mul hj1 hj1 (by decide) (by decide) (by decide), ?_⟩
          refine ⟨_, rfl, e / 2 ^ j, rfl, rfl, rfl, ?_⟩
          rw [half_mod, h2, Nat.mul_one, Int.pow_add, ← half_div, ← e2]
          rfl
    · refine iteFb (decide_eq_false (by omega)) ?_
      have hlt : e % 2 ^ j = e := by
        refine Nat.mod_eq_of_lt ?_
        have := Nat.lt_div_mul_add (a := e) (b := 2 ^ j) (Nat.pow_pos (by decide))
        have h0 : e / 2 ^ j = 0 := Nat.eq_zero_of_not_pos hz
        rw [h0] at this
        omega
      refine ⟨_, rfl, ?_⟩
      rw [hlt]
      exact k
end
end RS
namespace RS
open PySem L2
def Tl.word : Tl → Str
  | .fin => "end"
  | .times _ => "times"
  | .rep _ => "repeat"
theorem Tl.at0 (tl : Tl) : atI tl.vs 0 = some (.str tl.word) := by cases tl <;> exact atI_nat (j := 0) rfl
theorem wEE : decide (V.str "end" = V.str "end") = true := by decide +kernel
theorem wET : decide (V.str "end" = V.str "times") = false := by decide +kernel
theorem wER : decide (V.str "end" = V.str "repeat") = false := by decide +kernel
theorem wTE : decide (V.str "times" = V.str "end") = false := by decide +kernel
theorem wTT : decide (V.str "times" = V.str "times") = true := by decide +kernel
theorem wTR : decide (V.str "times" = V.str "repeat") = false := by decide +kernel
theorem wRE : decide (V.str "repeat" = V.str "end") = false := by decide +kernel
theorem wRT : decide (V.str "repeat" = V.str "times") = false := by decide +kernel
theorem wRR : decide (V.str "repeat" = V.str "repeat") = true := by decide +kernel
def lastG (gs : List Int) : Int := gs.getD (gs.length - 1) 0
def per (gs : List Int) (m : Nat) : Int := pre gs gs.length - pre gs (gs.length - m)
def off (gs : List Int) (tl : Tl) (n : Nat) : Int :=
  if n ≤ gs.length then pre gs n else match tl with
  | .fin => 0
  | .times b => pre gs gs.length + lastG gs * b * (b ^ (n - gs.length) - 1) / (b - 1)
  | .rep m => pre gs (gs.length - m + (n - gs.length) % m) + (((n - gs.length) / m : Nat) + 1) * per gs m
def gapf (gs : List Int) (tl : Tl) (n : Nat) : Int :=
  if n < gs.length then gs.getD n 0 else match tl with
  | .fin => 0
  | .times b => lastG gs * b ^ (n - gs.length + 1)
  | .rep m => gs.getD (gs.length - m + (n - gs.length) % m) 0
/-- an attempt that is answered -/
def AttOk (gs : List Int) (tl : Tl) (n : Nat) : Prop := match tl with
  | .fin => n ≤ gs.length
  | .times _ => n ≤ 1000
  | .rep _ => True
theorem AttOk.low {gs : List Int} {tl : Tl} (okG : GapsOk gs) {n : Nat} (h : n ≤ gs.length) : AttOk gs tl n := by
  cases tl with
  | fin => exact h
  | times b => have := okG.1; show n ≤ 1000; omega
  | rep m => exact True.intro
theorem getD_get {gs : List Int} {k : Nat} (h : k < gs.length) : gs[k]? = some (gs.getD k 0) := by
  rw [List.getD_eq_getElem?_getD, List.getElem?_eq_getElem h]
  rfl
theorem gap_bd {gs : List Int} (ok : GapsOk gs) {k : Nat} (h : k < gs.length) : 1 ≤ gs.getD k 0 ∧ gs.getD k 0 ≤ 1000000000000 := ok.2 _ (List.mem_of_getElem? (getD_get h))
theorem pre_le {gs : List Int} (ok : GapsOk gs) : ∀ k, k ≤ gs.length → (k : Int) ≤ pre gs k ∧ pre gs k ≤ 1000000000000 * k
  | 0, _ => by rw [pre_zero]; omega
  | k + 1, h => by
    have ih := pre_le ok k (by omega)
    have b := gap_bd ok (k := k) (by omega)
    rw [pre_succ gs (getD_get (by omega))]
    omega
theorem pre_mono {gs : List Int} (ok : GapsOk gs) (i : Nat) : ∀ k, i + k ≤ gs.length → pre gs i + k ≤ pre gs (i + k)
  | 0, _ => by simp
  | k + 1, h => by
    have ih := pre_mono ok i k (by omega)
    have b := gap_bd ok (k := i + k) (by omega)
    rw [show i + (k + 1) = (i + k) + 1 by omega, pre_succ gs (getD_get (by omega))]
    omega
theorem per_bd {gs : List Int} (ok : GapsOk gs) {m : Nat} (h1 : 1 ≤ m) (h2 : m ≤ gs.length) : (m : Int) ≤ per gs m ∧ per gs m ≤ 20000000000000 := by
  have a := pre_mono ok (gs.length - m) m (by omega)
  have b := pre_le ok (gs.length - m) (by omega)
  have c := pre_le ok gs.length (Nat.le_refl _)
  have d := ok.1
  rw [show gs.length - m + m = gs.length by omega] at a
  unfold per
  omega

section
variable {P : Program} {w : World} {K : PySem.W.Frag} {mg : Str → Option Value} {base : Heap}
/-! ### a rule's attributes, read -/
section
variable {C p g t o : Addr} {gs : List Int} {tl : Tl} {H : Hp} {σ : L2.St} {i : Nat}
theorem rdG {Q : VK} (T : Txt K mg C) (R : RuleAt C H p g t o gs tl) (hi : σ[i]? = some (some (.ref p))) (q : Q (.ref g) H) : tFld K (tVar i) "_gaps" σ H Q := by
  obtain ⟨dx, h⟩ := R.ob
  exact ⟨_, hi, p, C, dx, _, _, rfl, h, T.cl, T.nG, flds_g _ _ _, q⟩
theorem rdT {Q : VK} (T : Txt K mg C) (R : RuleAt C H p g t o gs tl) (hi : σ[i]? = some (some (.ref p))) (q : Q (.ref t) H) : tFld K (tVar i) "_tail" σ H Q := by
  obtain ⟨dx, h⟩ := R.ob
  exact ⟨_, hi, p, C, dx, _, _, rfl, h, T.cl, T.nT, flds_t _ _ _, q⟩
theorem rdO {Q : VK} (T : Txt K mg C) (R : RuleAt C H p g t o gs tl) (hi : σ[i]? = some (some (.ref p))) (q : Q (.ref o) H) : tFld K (tVar i) "_offsets" σ H Q := by
  obtain ⟨dx, h⟩ := R.ob
  exact ⟨_, hi, p, C, dx, _, _, rfl, h, T.cl, T.nO, flds_o _ _ _, q⟩
theorem rdOx {te : TE} {Q : VK} (T : Txt K mg C) (R : RuleAt C H p g t o gs tl) (hi : σ[i]? = some (some (.ref p))) (q : te σ H fun y H2 => rIxL K (.ref o) y H2 Q) : tOp (rIxL K) (tFld K (tVar i) "_offsets") te σ H Q := by
  dsimp only [tOp]
  exact rdO T R hi q
theorem rdGx {te : TE} {Q : VK} (T : Txt K mg C) (R : RuleAt C H p g t o gs tl) (hi : σ[i]? = some (some (.ref p))) (q : te σ H fun y H2 => rIxL K (.ref g) y H2 Q) : tOp (rIxL K) (tFld K (tVar i) "_gaps") te σ H Q := by
  dsimp only [tOp]
  exact rdG T R hi q
theorem rdIs {s : Str} {Q : Bool → Hp → Prop} (T : Txt K mg C) (R : RuleAt C H p g t o gs tl) (hi : σ[i]? = some (some (.ref p))) (q : Q (decide (V.str tl.word = V.str s)) H) :
    tTest (tOp rEq (tOp (rIxT K) (tFld K (tVar i) "_tail") (tC (.int 0))) (tC (.str s))) σ H Q := by
  dsimp only [tTest, tOp]
  exact rdT T R hi ⟨t, _, _, _, rfl, rfl, SqT.of R.ht, tl.at0, rfl, _, rfl, q⟩
theorem rdNe {s : Str} {Q : Bool → Hp → Prop} (T : Txt K mg C) (R : RuleAt C H p g t o gs tl) (hi : σ[i]? = some (some (.ref p))) (q : Q (!decide (V.str tl.word = V.str s)) H) :
    tTest (tOp rNe (tOp (rIxT K) (tFld K (tVar i) "_tail") (tC (.int 0))) (tC (.str s))) σ H Q := by
  dsimp only [tTest, tOp]
  exact rdT T R hi ⟨t, _, _, _, rfl, rfl, SqT.of R.ht, tl.at0, rfl, _, rfl, q⟩
theorem rdB {b : Int} {Q : VK} (T : Txt K mg C) (R : RuleAt C H p g t o gs (.times b)) (hi : σ[i]? = some (some (.ref p))) (q : Q (.int b) H) : tOp (rIxT K) (tFld K (tVar i) "_tail") (tC (.int 1)) σ H Q :=
  rdT T R hi ⟨t, _, _, _, rfl, rfl, SqT.of R.ht, atI_nat (j := 1) rfl, q⟩
theorem rdN {m : Nat} {Q : VK} (T : Txt K mg C) (R : RuleAt C H p g t o gs (.rep m)) (hi : σ[i]? = some (some (.ref p))) (q : Q (.int (m : Int)) H) : tOp (rIxT K) (tFld K (tVar i) "_tail") (tC (.int 1)) σ H Q :=
  rdT T R hi ⟨t, _, _, _, rfl, rfl, SqT.of R.ht, atI_nat (j := 1) rfl, q⟩
theorem rdLast {Q : VK} (T : Txt K mg C) (R : RuleAt C H p g t o gs tl) (hi : σ[i]? = some (some (.ref p))) (h0 : 0 < gs.length) (q : Q (.int (lastG gs)) H) :
    tOp (rIxL K) (tFld K (tVar i) "_gaps") (tUn (rU fun i => .int (-i)) (tC (.int 1))) σ H Q :=
  rdG T R hi ⟨_, rfl, g, _, _, _, rfl, rfl, SqL.of R.hg, at_back1 (by rw [List.length_map]; exact h0) (by rw [List.length_map, List.getElem?_map, getD_get (by omega)]; rfl), q⟩
theorem rdLastO {Q : VK} (T : Txt K mg C) (R : RuleAt C H p g t o gs tl) (hi : σ[i]? = some (some (.ref p))) (q : Q (.int (pre gs gs.length)) H) :
    tOp (rIxL K) (tFld K (tVar i) "_offsets") (tUn (rU fun i => .int (-i)) (tC (.int 1))) σ H Q :=
  rdO T R hi ⟨_, rfl, o, _, _, _, rfl, rfl, SqL.of R.ho, at_back1 (by rw [List.length_map, offs_len]; omega) (by rw [List.length_map, offs_len, List.getElem?_map, offs_get gs (by omega)]; rfl), q⟩
end
/-! ### Rule.__init__ -/
def spInit (C : Addr) : Sp := fun vs H Q _ => ∃ (p dx a t : Addr) (gs : List Int) (tl : Tl), vs = [.ref p, .ref a, .ref t] ∧ H p = some (.ins C dx []) ∧ H a = some (.lst (gs.map V.int)) ∧ H t = some (.tup tl.vs) ∧ GapsOk gs ∧ TlOk gs.length tl ∧
  ∀ (g o : Addr) (H' : Hp), H g = none → H o = none → (∀ b u, H b = some u → b ≠ p → H' b = some u) → RuleAt C H' p g t o gs tl → Q .non H'
theorem scInit : FnScope ["self", "gaps", "tail"] ["self", "gaps", "tail"] (defScope s_Rule_ddinitdd) := ⟨rfl, rfl, rfl, by decide +kernel, rfl, by decide +kernel, by decide +kernel⟩
theorem ok_init {f C fA fB fS fi : Addr} {fd fdA fdB fdS fdi : FuncData} (F : Fun K "__init__" "Rule.__init__" s_Rule_ddinitdd f fd) (T : Txt K mg C) (FI : Fun K "is_integer" "is_integer" s_is_integer fi fdi) (bI : Binds K fdi ["value"] []) (mI : mg "is_integer" = some (.ref fi))
    (FA : Fun K "are_gaps" "are_gaps" s_are_gaps fA fdA) (bA : Binds K fdA ["value", "most"] []) (mA : mg "are_gaps" = some (.ref fA)) (FB : Fun K "_is_tail" "_is_tail" s_is_tail fB fdB) (bB : Binds K fdB ["value", "many"] []) (mB : mg "_is_tail" = some (.ref fB))
    (FS : Fun K "sums" "sums" s_sums fS fdS) (bS : Binds K fdS ["gaps"] []) (mS : mg "sums" = some (.ref fS)) : FnOk P w K mg base CX0 3 f fd ["self", "gaps", "tail"] (spInit C) := by
  have GA : FnOk P w K mg base CX0 2 fA fdA ["value", "most"] spAreGaps := ok_areGaps FA T FI bI mI
  have GB : FnOk P w K mg base CX0 2 fB fdB ["value", "many"] spIsTail := ok_isTail FB T FI bI mI
  have GS : FnOk P w K mg base CX0 1 fS fdS ["gaps"] spSums := ok_sums FS
  obtain ⟨t1, m1⟩ := T.mMost
  refine F.ok scInit (fun vs H Q E h => ?_) (fun cdv A outer s H vs Q E hr h => ?_)
  · obtain ⟨p, dx, a, t, gs, tl, rfl, _⟩ := h
    rfl
  · obtain ⟨p, dx, a, t, gs, tl, rfl, hp, ha, ht, okG, okT, k⟩ := h
    refine ⟨_, (pss_cons (ps_if (pt_not (pt_val (pe_call GA hr rfl mA FA.kp bA .nil pass0 (pa_cons (pv 1) (pa_cons (pe_glob (v := .int 20) rfl m1 ⟨_, rfl⟩) pa_nil))))) (pss_one ps_never) pss_nil) (pss_cons (ps_if (pt_not (pt_val (pe_call GB hr rfl mB FB.kp bB .nil pass0 (pa_cons (pv 2) (pa_cons (pe_callB call_len_seq (by rfl) T.len (by decide +kernel) (pa_cons (pv 1) pa_nil)) pa_nil))))) (pss_one ps_never) pss_nil) (pss_cons (ps_fld (pv 0) (pe_callTy call_list_of (by rfl) T.list (by decide +kernel) (pa_cons (pv 1) pa_nil)) rfl) (pss_cons (ps_fld (pv 0) (pe_callTy call_tuple_of (by rfl) T.tuple (by decide +kernel) (pa_cons (pv 2) pa_nil)) rfl) (pss_one (ps_fld (pv 0) (pe_call GS (hr.mono (by decide)) rfl mS FS.kp bS .nil pass0 (pa_cons (pe_fld (pv 0) rfl) pa_nil)) rfl)))))), ?_⟩
    refine ⟨_, rfl, a, gs, 20, rfl, ha, okG, okG.1, fun H1 S1 => ⟨true, rfl, iteF ?_⟩⟩
    refine ⟨_, rfl, _, rfl, a, _, rfl, .inl (SqL.of (S1 _ _ ha)), t, tl, gs.length, ?_, S1 _ _ ht, okT, fun H2 S2 => ⟨true, rfl, iteF ?_⟩⟩
    · rw [List.length_map]
      rfl
    have S := S1.trans S2
    refine ⟨_, rfl, a, _, rfl, .inl (SqL.of (S _ _ ha)), fun g hg2 => ?_⟩
    have hg : H g = none := S.free hg2
    have npg : p ≠ g := ne_of_none hp hg
    have ntg : t ≠ g := ne_of_none ht hg
    have nag : a ≠ g := ne_of_none ha hg
    have npt : t ≠ p := ne_of ht hp (by intro z; cases z)
    have npa : a ≠ p := ne_of ha hp (by intro z; cases z)
    refine ⟨_, rfl, p, C, dx, [], rfl, (by rw [upd_ne npg]; exact S _ _ hp), T.cl, T.nG, (by show 0 < 1000; decide), ?_⟩
    refine ⟨_, rfl, t, _, rfl, .inr ⟨SqT.of (by rw [upd_ne npt, upd_ne ntg]; exact S _ _ ht), ?_⟩⟩
    refine ⟨_, rfl, p, C, dx, _, rfl, upd_same, T.cl, T.nT, (by show 1 < 1000; decide), ?_⟩
    have hgl : (putF "_tail" (.ref t) (putF "_gaps" (.ref g) [])).lookup ("_gaps" : Str) = some (V.ref g) := by
      rw [lookup_putF, if_neg kGT, lookup_putF, if_pos rfl]
    refine ⟨_, rfl, p, C, dx, _, _, rfl, upd_same, T.cl, T.nG, hgl, ?_⟩
    refine ⟨g, gs, rfl, (by rw [upd_ne npg.symm, upd_ne npg.symm, upd_same]), (by have := okG.1; omega), fun o H3 ho S3 ho3 => ?_⟩
    have hp3 := S3 _ _ (upd_same (H := upd (upd H2 g (.lst (gs.map V.int))) p (.ins C dx (putF "_gaps" (.ref g) []))) (a := p) (o := .ins C dx (putF "_tail" (.ref t) (putF "_gaps" (.ref g) []))))
    have npo : p ≠ o := ne_of_none (upd_same (H := upd (upd H2 g (.lst (gs.map V.int))) p (.ins C dx (putF "_gaps" (.ref g) []))) (a := p)) ho
    have ngo : g ≠ o := by
      refine ne_of_none (H := upd (upd (upd H2 g (.lst (gs.map V.int))) p (.ins C dx (putF "_gaps" (.ref g) []))) p (.ins C dx (putF "_tail" (.ref t) (putF "_gaps" (.ref g) [])))) (o := .lst (gs.map V.int)) ?_ ho
      rw [upd_ne npg.symm, upd_ne npg.symm, upd_same]
    have hoH : H o = none := by
      refine S.free ?_
      rw [upd_ne npo.symm, upd_ne npo.symm, upd_ne ngo.symm] at ho
      exact ho
    refine ⟨_, rfl, p, C, dx, _, rfl, hp3, T.cl, T.nO, (by show 2 < 1000; decide), ?_⟩
    refine k g o _ hg hoH (fun b u e nb => ?_) ⟨⟨dx, upd_same⟩, ?_, ?_, ?_, okG, okT⟩
    · rw [upd_ne nb]
      refine S3 _ _ ?_
      rw [upd_ne nb, upd_ne nb, upd_ne (ne_of_none e hg)]
      exact S _ _ e
    · rw [upd_ne npg.symm]
      refine S3 _ _ ?_
      rw [upd_ne npg.symm, upd_ne npg.symm, upd_same]
    · rw [upd_ne npt]
      refine S3 _ _ ?_
      rw [upd_ne npt, upd_ne npt, upd_ne ntg]
      exact S _ _ ht
    · rw [upd_ne npo.symm]
      exact ho3

end
end RS
namespace RS
open PySem L2
section
variable {P : Program} {w : World} {K : PySem.W.Frag} {mg : Str → Option Value} {base : Heap}
/-! ### attempts, _first_repeating, period -/
def attV (gs : List Int) : Tl → V
  | .fin => .int ((gs.length : Int) + 1)
  | _ => .non
def spAtt (C : Addr) : Sp := fun vs H Q _ => ∃ (p g t o : Addr) (gs : List Int) (tl : Tl), vs = [.ref p] ∧ RuleAt C H p g t o gs tl ∧ Q (attV gs tl) H
theorem scSelf_attempts : FnScope ["self"] ["self"] (defScope s_Rule_attempts) := ⟨rfl, rfl, rfl, by decide +kernel, rfl, by decide +kernel, by decide +kernel⟩
theorem ok_attempts {f C : Addr} {fd : FuncData} (F : Fun K "attempts" "Rule.attempts" s_Rule_attempts f fd) (T : Txt K mg C) : FnOk P w K mg base CX0 1 f fd ["self"] (spAtt C) := by
  refine F.ok scSelf_attempts (fun vs H Q E h => ?_) (fun cdv A outer s H vs Q E hr h => ?_)
  · obtain ⟨p, g, t, o, gs, tl, rfl, _⟩ := h
    rfl
  · obtain ⟨p, g, t, o, gs, tl, rfl, R, k⟩ := h
    refine ⟨_, (pss_cons (ps_if (pt_cmpR op_eq (pe_ix ix_tup (pe_fld (pv 0) rfl) pe_int (fun _ _ => rfl)) pe_str (nomark _)) (pss_one (ps_ret (pe_callB call_len_seq (by rfl) T.len (by decide +kernel) (pa_cons (pe_fld (pv 0) rfl) pa_nil)))) pss_nil) (pss_one (ps_ret pe_non))), ?_⟩
    refine rdIs T R rfl ?_
    cases tl with
    | fin =>
      refine iteTb wEE ?_
      refine rdO T R rfl ⟨o, _, rfl, .inl (SqL.of R.ho), ?_⟩
      rw [List.length_map, offs_len]
      exact k
    | times b => exact iteFb wTE k
    | rep m => exact iteFb wRE k
def spFR (C : Addr) : Sp := fun vs H Q _ => ∃ (p g t o : Addr) (gs : List Int) (m : Nat), vs = [.ref p] ∧ RuleAt C H p g t o gs (.rep m) ∧ Q (.int ((gs.length - m : Nat) : Int)) H
theorem scSelf_fr : FnScope ["self"] ["self"] (defScope s_Rule_first_repeating) := ⟨rfl, rfl, rfl, by decide +kernel, rfl, by decide +kernel, by decide +kernel⟩
def frV (gs : List Int) : Tl → V
  | .rep m => .int ((gs.length - m : Nat) : Int)
  | _ => .non
def spFRA (C : Addr) : Sp := fun vs H Q _ => ∃ (p g t o : Addr) (gs : List Int) (tl : Tl), vs = [.ref p] ∧ RuleAt C H p g t o gs tl ∧ Q (frV gs tl) H
theorem ok_frA {f C : Addr} {fd : FuncData} (F : Fun K "first_repeating" "Rule.first_repeating" s_Rule_first_repeating f fd) (T : Txt K mg C) : FnOk P w K mg base CX0 1 f fd ["self"] (spFRA C) := by
  refine F.ok scSelf_fr (fun vs H Q E h => ?_) (fun cdv A outer s H vs Q E hr h => ?_)
  · obtain ⟨p, g, t, o, gs, tl, rfl, _⟩ := h
    rfl
  · obtain ⟨p, g, t, o, gs, tl, rfl, R, k⟩ := h
    refine ⟨_, (pss_cons (ps_if (pt_cmpR op_ne (pe_ix ix_tup (pe_fld (pv 0) rfl) pe_int (fun _ _ => rfl)) pe_str (nomark _)) (pss_one (ps_ret pe_non)) pss_nil) (pss_one (ps_ret (pe_op op_sub (pe_callB call_len_seq (by rfl) T.len (by decide +kernel) (pa_cons (pe_fld (pv 0) rfl) pa_nil)) (pe_ix ix_tup (pe_fld (pv 0) rfl) pe_int (fun _ _ => rfl)))))), ?_⟩
    refine rdNe T R rfl ?_
    cases tl with
    | fin => exact iteTb (congrArg not wER) k
    | times b => exact iteTb (congrArg not wTR) k
    | rep m =>
      refine iteFb (congrArg not wRR) ?_
      refine rdG T R rfl ⟨g, _, rfl, .inl (SqL.of R.hg), rdN T R rfl ⟨_, _, rfl, rfl, ?_⟩⟩
      have e : ((((gs.map V.int).length : Nat) : Int) - (m : Int)) = ((gs.length - m : Nat) : Int) := by
        have := R.okT.2
        rw [List.length_map]
        omega
      have k' : Q (.int ((gs.length - m : Nat) : Int)) H := k
      rw [← e] at k'
      exact k'
theorem ok_fr {f C : Addr} {fd : FuncData} (F : Fun K "first_repeating" "Rule.first_repeating" s_Rule_first_repeating f fd) (T : Txt K mg C) : FnOk P w K mg base CX0 1 f fd ["self"] (spFR C) := by
  refine F.ok scSelf_fr (fun vs H Q E h => ?_) (fun cdv A outer s H vs Q E hr h => ?_)
  · obtain ⟨p, g, t, o, gs, tl, rfl, _⟩ := h
    rfl
  · obtain ⟨p, g, t, o, gs, m, rfl, R, k⟩ := h
    refine ⟨_, (pss_cons (ps_if (pt_cmpR op_ne (pe_ix ix_tup (pe_fld (pv 0) rfl) pe_int (fun _ _ => rfl)) pe_str (nomark _)) (pss_one (ps_ret pe_non)) pss_nil) (pss_one (ps_ret (pe_op op_sub (pe_callB call_len_seq (by rfl) T.len (by decide +kernel) (pa_cons (pe_fld (pv 0) rfl) pa_nil)) (pe_ix ix_tup (pe_fld (pv 0) rfl) pe_int (fun _ _ => rfl)))))), ?_⟩
    refine rdNe T R rfl (iteFb (congrArg not wRR) ?_)
    refine rdG T R rfl ⟨g, _, rfl, .inl (SqL.of R.hg), rdN T R rfl ⟨_, _, rfl, rfl, ?_⟩⟩
    have e : ((((gs.map V.int).length : Nat) : Int) - (m : Int)) = ((gs.length - m : Nat) : Int) := by
      have := R.okT.2
      rw [List.length_map]
      omega
    rw [← e] at k
    exact k
end
end RS
namespace RS
open PySem L2
section
variable {P : Program} {w : World} {K : PySem.W.Frag} {mg : Str → Option Value} {base : Heap}
def perV (gs : List Int) : Tl → V
  | .rep m => .int (per gs m)
  | _ => .non
def spPer (C : Addr) : Sp := fun vs H Q _ => ∃ (p g t o : Addr) (gs : List Int) (tl : Tl), vs = [.ref p] ∧ RuleAt C H p g t o gs tl ∧ Q (perV gs tl) H
theorem scSelf_per : FnScope ["self"] ["self"] (defScope s_Rule_period) := ⟨rfl, rfl, rfl, by decide +kernel, rfl, by decide +kernel, by decide +kernel⟩
theorem ok_per {f C fR : Addr} {fd fdR : FuncData} (F : Fun K "period" "Rule.period" s_Rule_period f fd) (T : Txt K mg C) (FR : Fun K "first_repeating" "Rule.first_repeating" s_Rule_first_repeating fR fdR) (bR : Binds K fdR ["self"] []) (mR : Meth K C "first_repeating" fR) : FnOk P w K mg base CX0 2 f fd ["self"] (spPer C) := by
  have GR : FnOk P w K mg base CX0 1 fR fdR ["self"] (spFR C) := ok_fr FR T
  refine F.ok scSelf_per (fun vs H Q E h => ?_) (fun cdv A outer s H vs Q E hr h => ?_)
  · obtain ⟨p, g, t, o, gs, tl, rfl, _⟩ := h
    rfl
  · obtain ⟨p, g, t, o, gs, tl, rfl, R, k⟩ := h
    refine ⟨_, (pss_cons (ps_if (pt_cmpR op_ne (pe_ix ix_tup (pe_fld (pv 0) rfl) pe_int (fun _ _ => rfl)) pe_str (nomark _)) (pss_one (ps_ret pe_non)) pss_nil) (pss_one (ps_ret (pe_op op_sub (pe_ix ix_list (pe_fld (pv 0) rfl) (pe_un un_neg pe_int) (fun _ _ => rfl)) (pe_ix ix_list (pe_fld (pv 0) rfl) (pe_meth0 (pv 0) T.cl mR GR hr bR .nil pass0) (fun _ _ => rfl)))))), ?_⟩
    refine rdNe T R rfl ?_
    cases tl with
    | fin => exact iteTb (congrArg not wER) k
    | times b => exact iteTb (congrArg not wTR) k
    | rep m =>
      refine iteFb (congrArg not wRR) ?_
      refine rdLastO T R rfl (rdO T R rfl ?_)
      obtain ⟨dx, hob⟩ := R.ob
      refine ⟨_, rfl, p, dx, _, rfl, hob, flds_no _ _ _ (by decide +kernel) (by decide +kernel) (by decide +kernel), p, g, t, o, gs, m, rfl, R, ?_⟩
      exact ⟨o, _, _, _, rfl, rfl, SqL.of R.ho, at_map (offs_get gs (by omega)), _, _, rfl, rfl, k⟩
end
end RS
namespace RS
open PySem L2
section
variable {P : Program} {w : World} {K : PySem.W.Frag} {mg : Str → Option Value} {base : Heap}
/-! ### Rule.gaps, tail, least_gap -/
def spGaps (C : Addr) : Sp := fun vs H Q _ => ∃ (p g t o : Addr) (gs : List Int) (tl : Tl), vs = [.ref p] ∧ RuleAt C H p g t o gs tl ∧ ∀ l, H l = none → Q (.ref l) (upd H l (.lst (gs.map V.int)))
theorem scGaps : FnScope ["self"] ["self"] (defScope s_Rule_gaps) := ⟨rfl, rfl, rfl, by decide +kernel, rfl, by decide +kernel, by decide +kernel⟩
theorem ok_gaps {f C : Addr} {fd : FuncData} (F : Fun K "gaps" "Rule.gaps" s_Rule_gaps f fd) (T : Txt K mg C) : FnOk P w K mg base CX0 1 f fd ["self"] (spGaps C) := by
  refine F.ok scGaps (fun vs H Q E h => ?_) (fun cdv A outer s H vs Q E hr h => ?_)
  · obtain ⟨p, g, t, o, gs, tl, rfl, _⟩ := h
    rfl
  · obtain ⟨p, g, t, o, gs, tl, rfl, R, k⟩ := h
    refine ⟨_, (pss_one (ps_ret (pe_callTy call_list_of (by rfl) T.list (by decide +kernel) (pa_cons (pe_fld (pv 0) rfl) pa_nil)))), ?_⟩
    exact rdG T R rfl ⟨g, _, rfl, .inl (SqL.of R.hg), k⟩
def spTail (C : Addr) : Sp := fun vs H Q _ => ∃ (p g t o : Addr) (gs : List Int) (tl : Tl), vs = [.ref p] ∧ RuleAt C H p g t o gs tl ∧ Q (.ref t) H
theorem scTail : FnScope ["self"] ["self"] (defScope s_Rule_tail) := ⟨rfl, rfl, rfl, by decide +kernel, rfl, by decide +kernel, by decide +kernel⟩
theorem ok_tail {f C : Addr} {fd : FuncData} (F : Fun K "tail" "Rule.tail" s_Rule_tail f fd) (T : Txt K mg C) : FnOk P w K mg base CX0 1 f fd ["self"] (spTail C) := by
  refine F.ok scTail (fun vs H Q E h => ?_) (fun cdv A outer s H vs Q E hr h => ?_)
  · obtain ⟨p, g, t, o, gs, tl, rfl, _⟩ := h
    rfl
  · obtain ⟨p, g, t, o, gs, tl, rfl, R, k⟩ := h
    refine ⟨_, (pss_one (ps_ret (pe_fld (pv 0) rfl))), ?_⟩
    exact rdT T R rfl k
end
end RS
namespace RS
open PySem L2
/-! ### the law's own source of numbers -/
/-- all but what stands at a is as it was -/
def Kx (a : Addr) (H H' : Hp) : Prop := ∀ c u, c ≠ a → H c = some u → H' c = some u
theorem Kx.refl (a : Addr) (H : Hp) : Kx a H H := fun _ _ _ h => h
theorem Kx.trans {a : Addr} {H H1 H2 : Hp} (x : Kx a H H1) (y : Kx a H1 H2) : Kx a H H2 := fun c u n h => y c u n (x c u n h)
theorem Kx.of {a : Addr} {H H' : Hp} (x : Same H H') : Kx a H H' := fun c u _ h => x c u h
theorem Kx.upd {a : Addr} {H : Hp} {o : HO} : Kx a H (upd H a o) := fun c u n h => by
  rw [upd_ne n]
  exact h
theorem Kx.free {a : Addr} {H H' : Hp} (x : Kx a H H') {p : Addr} (n : p ≠ a) (h : H' p = none) : H p = none := by
  cases q : H p with
  | none => rfl
  | some o =>
    rw [x p o n q] at h
    cases h
structure Src (H : Hp) (a : Addr) (b : Nat) : Prop where
  ex : ∃ s0 s1 s2 : Int, H a = some (.lst [.int s0, .int s1, .int s2]) ∧ 0 ≤ s0 ∧ 0 ≤ s1 ∧ s1 < 2147483647 ∧ 0 ≤ s2 ∧ s2 ≤ b
theorem Src.mono {H H' : Hp} {a : Addr} {b : Nat} (h : Src H a b) (e : Same H H') : Src H' a b := by
  obtain ⟨s0, s1, s2, h1, h2⟩ := h.ex
  exact ⟨s0, s1, s2, e _ _ h1, h2⟩
theorem Src.le {H : Hp} {a : Addr} {b c : Nat} (h : Src H a b) (e : b ≤ c) : Src H a c := by
  obtain ⟨s0, s1, s2, h1, h2, h3, h4, h5, h6⟩ := h.ex
  exact ⟨s0, s1, s2, h1, h2, h3, h4, h5, by omega⟩
theorem Src.new {H : Hp} {a : Addr} {b : Nat} (h : Src H a b) {p : Addr} (hp : H p = none) : a ≠ p := by
  obtain ⟨s0, s1, s2, h1, _⟩ := h.ex
  exact ne_of_none h1 hp
section
variable {P : Program} {w : World} {K : PySem.W.Frag} {mg : Str → Option Value} {base : Heap}
def spSrcOf : Sp := fun vs H Q _ => ∃ c : Int, vs = [.int c] ∧ ∀ a H', H a = none → Same H H' → Src H' a 0 → Q (.ref a) H'
theorem scSrcOf : FnScope ["_law_cell"] ["_law_cell"] (defScope s_law_source_of) := ⟨rfl, rfl, rfl, by decide +kernel, rfl, by decide +kernel, by decide +kernel⟩
theorem ok_srcOf {f C : Addr} {fd : FuncData} (F : Fun K "_law_source_of" "_law_source_of" s_law_source_of f fd) (T : Txt K mg C) : FnOk P w K mg base CX0 1 f fd ["_law_cell"] spSrcOf := by
  refine F.ok scSrcOf (fun vs H Q E h => ?_) (fun cdv A outer s H vs Q E hr h => ?_)
  · obtain ⟨c, rfl, _⟩ := h
    rfl
  · obtain ⟨c, rfl, k⟩ := h
    refine ⟨_, (pss_one (ps_ret (pe_lst (pa_cons (pe_op op_mul (pv 0) (pe_callTy call_int1 (by rfl) T.int (by decide +kernel) (pa_cons (pe_cmpR op_ge (pv 0) (pe_op op_pow pe_int pe_int) (nomark _)) pa_nil))) (pa_cons (pe_op op_mod (pe_callTy call_int1 (by rfl) T.int (by decide +kernel) (pa_cons (pv 0) pa_nil)) pe_int) (pa_cons pe_int pa_nil)))))), ?_⟩
    refine ⟨_, rfl, _, rfl, _, _, rfl, rfl, ⟨by decide, by decide, by decide⟩, _, _, rfl, rfl, .inr ⟨_, rfl, ?_⟩⟩
    refine ⟨_, _, rfl, rfl, .inr ?_, _, rfl, .inl ⟨_, rfl, _, _, rfl, rfl, (by show (0 : Int) < 2147483647; decide), (by show 3 ≤ sizeLine; decide), fun a ha => ?_⟩⟩
    · by_cases hc : (10 : Int) ^ (18 : Int).toNat ≤ c
      · rw [decide_eq_true hc]; decide
      · rw [decide_eq_false hc]; decide
    · refine k a _ ha (same_new ha) ⟨_, _, _, upd_same, ?_, Int.emod_nonneg _ (by decide), Int.emod_lt_of_pos _ (by decide), by decide, by decide⟩
      by_cases hc : (10 : Int) ^ (18 : Int).toNat ≤ c
      · have e : (10 : Int) ^ (18 : Int).toNat = 1000000000000000000 := by decide
        rw [decide_eq_true hc]
        show 0 ≤ c * 1
        omega
      · rw [decide_eq_false hc]
        show 0 ≤ c * 0
        omega
def spNext : Sp := fun vs H Q _ => ∃ (a : Addr) (m : Int) (b : Nat), vs = [.ref a, .int m] ∧ Src H a b ∧ b ≤ 100000 ∧ 1 ≤ m ∧ m < 2 ^ 200 ∧ ∀ r H', 0 ≤ r → r < m → Kx a H H' → Src H' a (b + 1) → Q (.int r) H'
theorem scNext : FnScope ["_law_source", "_law_bound", "_law_result", "_law_prime", "_law_mixed"] ["_law_source", "_law_bound"] (defScope s_law_draw) := ⟨rfl, rfl, rfl, by decide +kernel, rfl, by decide +kernel, by decide +kernel⟩
theorem prime_at {s : Int} (h : 0 ≤ s) : ∃ pr : Int, atI [V.int 2147483647, V.int 2147483629, V.int 2147483587, V.int 2147483579, V.int 2147483563, V.int 2147483549, V.int 2147483543] (s % 7) = some (.int pr) ∧ 1 ≤ pr ∧ pr ≤ 2147483647 := by
  have h1 : s % 7 = 0 ∨ s % 7 = 1 ∨ s % 7 = 2 ∨ s % 7 = 3 ∨ s % 7 = 4 ∨ s % 7 = 5 ∨ s % 7 = 6 := by omega
  rcases h1 with h1 | h1 | h1 | h1 | h1 | h1 | h1 <;> rw [h1] <;> exact ⟨_, rfl, by decide, by decide⟩
theorem ok_next {f C : Addr} {fd : FuncData} (F : Fun K "_law_draw" "_law_draw" s_law_draw f fd) (T : Txt K mg C) : FnOk P w K mg base CX0 1 f fd ["_law_source", "_law_bound"] spNext := by
  refine F.ok scNext (fun vs H Q E h => ?_) (fun cdv A outer s H vs Q E hr h => ?_)
  · obtain ⟨a, m, b, rfl, _⟩ := h
    rfl
  · obtain ⟨a, m, b, rfl, S, hb, hm1, hm2, k⟩ := h
    obtain ⟨s0, s1, s2, ha, h0, h1, h1', h2, h2'⟩ := S.ex
    refine ⟨_, (pss_cons (ps_if (pt_cmpR op_gt (pe_ix ix_list (pv 0) pe_int (fun _ _ => rfl)) pe_int (nomark _)) (pss_cons (ps_set (i := 2) scNext.nd rfl (Or.inl rfl) (pe_op op_mod (pe_callTy call_int1 (by rfl) T.int (by decide +kernel) (pa_cons (pe_ix ix_list (pv 0) pe_int (fun _ _ => rfl)) pa_nil)) (pv 1))) (pss_cons (ps_asg (pe_op op_fdivW (pe_ix ix_list (pv 0) pe_int (fun _ _ => rfl)) (pv 1)) (pg_sub (pv 0) pe_int set_list)) (pss_one (ps_ret (pv 2))))) pss_nil) (pss_cons (ps_asg (pe_op op_add (pe_ix ix_list (pv 0) pe_int (fun _ _ => rfl)) pe_int) (pg_sub (pv 0) pe_int set_list)) (pss_cons (ps_set (i := 3) scNext.nd rfl (Or.inl rfl) (pe_ix ix_list (pe_lst (pa_cons pe_int (pa_cons pe_int (pa_cons pe_int (pa_cons pe_int (pa_cons pe_int (pa_cons pe_int (pa_cons pe_int pa_nil)))))))) (pe_op op_mod (pe_callTy call_int1 (by rfl) T.int (by decide +kernel) (pa_cons (pe_ix ix_list (pv 0) pe_int (fun _ _ => rfl)) pa_nil)) pe_int) (fun _ _ => rfl))) (pss_cons (ps_set (i := 4) scNext.nd rfl (Or.inl rfl) (pe_op op_mod (pe_callTy call_int1 (by rfl) T.int (by decide +kernel) (pa_cons (pe_op op_pow (pe_op op_add (pe_op op_add (pe_ix ix_list (pv 0) pe_int (fun _ _ => rfl)) (pe_op op_mul pe_int (pe_ix ix_list (pv 0) pe_int (fun _ _ => rfl)))) pe_int) pe_int) pa_nil)) (pv 3))) (pss_cons (ps_set (i := 4) scNext.nd rfl (Or.inl rfl) (pe_op op_mod (pe_callTy call_int1 (by rfl) T.int (by decide +kernel) (pa_cons (pe_op op_mul (pe_op op_add (pv 4) (pe_ix ix_list (pv 0) pe_int (fun _ _ => rfl))) (pe_op op_add (pe_op op_fdiv (pv 4) pe_int) pe_int)) pa_nil)) (pv 3))) (pss_one (ps_ret (pe_op op_mod (pe_callTy call_int1 (by rfl) T.int (by decide +kernel) (pa_cons (pe_op op_fdiv (pv 4) pe_int) pa_nil)) (pv 1))))))))), ?_⟩
    refine ⟨_, rfl, a, _, _, _, rfl, rfl, SqL.of ha, atI_nat (j := 0) rfl, _, _, rfl, rfl, _, rfl, ?_⟩
    by_cases hz : 0 < s0
    · refine iteTb (decide_eq_true hz) ?_
      refine ⟨_, rfl, a, _, _, _, rfl, rfl, SqL.of ha, atI_nat (j := 0) rfl, .inl ⟨_, rfl, _, rfl, _, _, rfl, rfl, by omega, ?_⟩⟩
      refine ⟨_, rfl, a, _, _, _, rfl, rfl, SqL.of ha, atI_nat (j := 0) rfl, _, rfl, _, _, rfl, rfl, wide_div (by omega) (b := 200) (by omega) (by decide) (by decide), _, rfl, a, _, _, 0, rfl, rfl, ha, rfl, ?_⟩
      refine ⟨_, rfl, k _ _ (Int.emod_nonneg _ (by omega)) (Int.emod_lt_of_pos _ (by omega)) Kx.upd ⟨s0 / m, s1, s2, upd_same, Int.ediv_nonneg h0 (by omega), h1, h1', h2, by omega⟩⟩
    · refine iteFb (decide_eq_false hz) ?_
      refine ⟨_, rfl, a, _, _, _, rfl, rfl, SqL.of ha, atI_nat (j := 2) rfl, _, _, rfl, rfl, _, rfl, a, _, _, 2, rfl, rfl, ha, rfl, ?_⟩
      refine ⟨by show 7 ≤ sizeLine; decide, fun l hl => ?_⟩
      have hal : (upd (upd H a (.lst [.int s0, .int s1, .int (s2 + 1)])) l (.lst [.int 2147483647, .int 2147483629, .int 2147483587, .int 2147483579, .int 2147483563, .int 2147483549, .int 2147483543])) a = some (.lst [.int s0, .int s1, .int (s2 + 1)]) := by
        rw [upd_ne (ne_of_none upd_same hl)]
        exact upd_same
      obtain ⟨pr, hpr, hp1, hp2⟩ := prime_at (s := s2 + 1) (by omega)
      refine ⟨_, rfl, a, _, _, _, rfl, rfl, SqL.of hal, atI_nat (j := 2) rfl, .inl ⟨_, rfl, _, _, rfl, rfl, (by show (0 : Int) < 7; decide), l, _, _, _, rfl, rfl, SqL.of upd_same, hpr, ?_⟩⟩
      refine ⟨_, rfl, a, _, _, _, rfl, rfl, SqL.of hal, atI_nat (j := 1) rfl, _, rfl, a, _, _, _, rfl, rfl, SqL.of hal, atI_nat (j := 2) rfl, _, _, rfl, rfl, .inl ⟨by decide, by decide⟩, _, _, rfl, rfl, _, _, rfl, rfl, _, _, rfl, rfl, ⟨by decide, by decide, by omega⟩, .inl ⟨_, rfl, _, rfl, _, _, rfl, rfl, by omega, ?_⟩⟩
      generalize hf : (s1 + 7919 * (s2 + 1) + 1) ^ (5 : Int).toNat % pr = fg
      have f0 : 0 ≤ fg := by rw [← hf]; exact Int.emod_nonneg _ (by omega)
      have f1 : fg < pr := by rw [← hf]; exact Int.emod_lt_of_pos _ (by omega)
      refine ⟨_, rfl, _, rfl, a, _, _, _, rfl, rfl, SqL.of hal, atI_nat (j := 2) rfl, _, _, rfl, rfl, _, rfl, _, _, rfl, rfl, ⟨by decide, by decide⟩, _, _, rfl, rfl, _, _, rfl, rfl, .inl ⟨by omega, by omega⟩, .inl ⟨_, rfl, _, rfl, _, _, rfl, rfl, by omega, ?_⟩⟩
      refine ⟨_, rfl, _, _, rfl, rfl, ⟨by decide, by decide⟩, .inl ⟨_, rfl, _, rfl, _, _, rfl, rfl, by omega, ?_⟩⟩
      refine k _ _ (Int.emod_nonneg _ (by omega)) (Int.emod_lt_of_pos _ (by omega)) (fun c u n e => ?_) ⟨s0, s1, s2 + 1, hal, h0, h1, h1', by omega, by omega⟩
      have e2 : (upd H a (.lst [.int s0, .int s1, .int (s2 + 1)])) c = some u := by
        rw [upd_ne n]
        exact e
      rw [upd_ne (ne_of_none e2 hl)]
      exact e2
def spOne : Sp := fun vs H Q _ => ∃ (a q : Addr) (xs : List V) (b : Nat), vs = [.ref a, .ref q] ∧ Src H a b ∧ b ≤ 100000 ∧ q ≠ a ∧ H q = some (.lst xs) ∧ 0 < xs.length ∧ xs.length < 1000 ∧ ∀ x H', x ∈ xs → Kx a H H' → Src H' a (b + 1) → Q x H'
theorem scOne : FnScope ["_law_source", "_law_options"] ["_law_source", "_law_options"] (defScope s_law_choice) := ⟨rfl, rfl, rfl, by decide +kernel, rfl, by decide +kernel, by decide +kernel⟩
theorem ok_one {f C fN : Addr} {fd fdN : FuncData} (F : Fun K "_law_choice" "_law_choice" s_law_choice f fd) (T : Txt K mg C) (FN : Fun K "_law_draw" "_law_draw" s_law_draw fN fdN) (bN : Binds K fdN ["_law_source", "_law_bound"] []) (mN : mg "_law_draw" = some (.ref fN)) :
    FnOk P w K mg base CX0 2 f fd ["_law_source", "_law_options"] spOne := by
  have GN : FnOk P w K mg base CX0 1 fN fdN ["_law_source", "_law_bound"] spNext := ok_next FN T
  refine F.ok scOne (fun vs H Q E h => ?_) (fun cdv A outer s H vs Q E hr h => ?_)
  · obtain ⟨a, q, xs, b, rfl, _⟩ := h
    rfl
  · obtain ⟨a, q, xs, b, rfl, S, hb, hne, hq, hx0, hx1, k⟩ := h
    refine ⟨_, (pss_one (ps_ret (pe_ix ix_list (pv 1) (pe_call GN hr rfl mN FN.kp bN .nil pass0 (pa_cons (pv 0) (pa_cons (pe_callB call_len_seq (by rfl) T.len (by decide +kernel) (pa_cons (pv 1) pa_nil)) pa_nil))) (fun _ _ => rfl)))), ?_⟩
    refine ⟨_, rfl, _, rfl, _, rfl, q, _, rfl, .inl (SqL.of hq), a, (xs.length : Int), b, rfl, S, hb, by omega, by omega, fun r H' r0 r1 kx S' => ?_⟩
    obtain ⟨j, rfl⟩ : ∃ j : Nat, r = (j : Int) := ⟨r.toNat, by omega⟩
    have hj : j < xs.length := by omega
    exact ⟨q, _, _, _, rfl, rfl, SqL.of (kx _ _ hne hq), atI_nat (List.getElem?_eq_getElem hj), k _ _ (List.getElem_mem hj) kx S'⟩
def spCell (K : PySem.W.Frag) : Sp := fun vs H Q _ => ∃ (a : Addr) (ns : List Int), vs = [.ref a, .int 0] ∧ SqL K H a (ns.map V.int) ∧ Q (.int (ns.getD 0 0)) H
theorem scCell : FnScope ["_law_script", "_law_index"] ["_law_script", "_law_index"] (defScope s_law_cell_at) := ⟨rfl, rfl, rfl, by decide +kernel, rfl, by decide +kernel, by decide +kernel⟩
theorem ok_cell {f C : Addr} {fd : FuncData} (F : Fun K "_law_cell_at" "_law_cell_at" s_law_cell_at f fd) (T : Txt K mg C) : FnOk P w K mg base CX0 1 f fd ["_law_script", "_law_index"] (spCell K) := by
  refine F.ok scCell (fun vs H Q E h => ?_) (fun cdv A outer s H vs Q E hr h => ?_)
  · obtain ⟨a, ns, rfl, _⟩ := h
    rfl
  · obtain ⟨a, ns, rfl, hs, k⟩ := h
    refine ⟨_, (pss_cons (ps_if (pt_cmpR op_lt (pv 1) (pe_callB call_len_seq (by rfl) T.len (by decide +kernel) (pa_cons (pv 0) pa_nil)) (nomark _)) (pss_one (ps_ret (pe_ix ix_list (pv 0) (pv 1) (fun _ _ => rfl)))) pss_nil) (pss_one (ps_ret pe_int))), ?_⟩
    refine ⟨_, rfl, _, rfl, a, _, rfl, .inl hs, _, _, rfl, rfl, _, rfl, ?_⟩
    rw [List.length_map]
    cases ns with
    | nil => exact iteFb (by decide) k
    | cons n r =>
      refine iteTb (decide_eq_true (by rw [List.length_cons]; omega)) ?_
      exact ⟨_, rfl, _, rfl, a, _, _, _, rfl, rfl, hs, atI_nat (j := 0) rfl, k⟩
end
end RS
namespace RS
open PySem L2
section
variable {P : Program} {w : World} {K : PySem.W.Frag} {mg : Str → Option Value} {base : Heap}
/-! ### check_starts: what is accepted -/
def spChS : Sp := fun vs H Q _ => ∃ (s : Addr) (bs : List Int) (few : Nat), vs = [.ref s, .int (few : Int)] ∧ H s = some (.lst (bs.map V.int)) ∧ few ≤ bs.length ∧ bs.length ≤ 40 ∧ ∀ H', Same H H' → Q .non H'
theorem scChS : FnScope ["value", "fewest", "at", "start"] ["value", "fewest"] (defScope s_check_starts) := ⟨rfl, rfl, rfl, by decide +kernel, rfl, by decide +kernel, by decide +kernel⟩
theorem ok_chS {f C fI : Addr} {fd fdI : FuncData} (F : Fun K "check_starts" "check_starts" s_check_starts f fd) (T : Txt K mg C) (mC : ∃ t, mg "MOST_CLIENTS" = some (.int 40 t))
    (GI : FnOk P w K mg base CX0 1 fI fdI ["value"] spIsInt) (bI : Binds K fdI ["value"] []) (mI : mg "is_integer" = some (.ref fI)) (kI : PySem.W.keepIn K (.ref fI) = true) : FnOk P w K mg base CX0 2 f fd ["value", "fewest"] spChS := by
  obtain ⟨t1, m1⟩ := mC
  refine F.ok scChS (fun vs H Q E h => ?_) (fun cdv A outer s H vs Q E hr h => ?_)
  · obtain ⟨s, bs, few, rfl, _⟩ := h
    rfl
  · obtain ⟨s, bs, few, rfl, hs, h1, h40, k⟩ := h
    refine ⟨_, (pss_cons (ps_if (PW.pt (pw_or (pt_not (pt_val (pe_callB call_isi (by rfl) T.isi (by decide +kernel) (pa_cons (pv 0) (pa_cons (pe_bltn (v := .ty "list") (by rfl) T.list (by decide +kernel) rfl) pa_nil))))) (pw_or1 (pt_not (pt_chain op_le op_le (pv 1) (pe_callB call_len_seq (by rfl) T.len (by decide +kernel) (pa_cons (pv 0) pa_nil)) (pe_glob (v := .int 40) rfl m1 ⟨_, rfl⟩)))))) (pss_one ps_never) pss_nil) (pss_one (ps_for PassesOwn.never rfl (pi_enum (by rfl) T.enum (pa_cons (pv 0) pa_nil)) (pg_tup rfl (pgs_cons (pg_name (i := 2) scChS.nd rfl (Or.inl rfl)) (pgs_cons (pg_name (i := 3) scChS.nd rfl (Or.inl rfl)) pgs_nil)))
        (pss_one (ps_if (pt_not (pt_val (pe_call GI hr rfl mI kI bI .nil pass0 (pa_cons (pv 3) pa_nil)))) (pss_one ps_never) pss_nil))))), ?_⟩
    refine ⟨_, rfl, _, _, _, _, _, rfl, .ty _, .base (.lst hs), kit_ty (r := true) (by decide +kernel), true, rfl, iteF ?_⟩
    refine ⟨_, rfl, _, rfl, s, _, rfl, .inl (SqL.of hs), _, _, rfl, rfl, _, rfl, ?_⟩
    rw [List.length_map]
    refine iteTb (decide_eq_true (by omega)) ?_
    refine ⟨_, _, rfl, rfl, _, rfl, iteFb (by rw [decide_eq_true (by omega)]; rfl) ?_⟩
    refine ⟨_, rfl, s, _, rfl, SqL.of hs, for_it (walk_enum (a := s) (xs := bs.map V.int)) (fun i σ H' => (∃ v1 v2, σ = [some (.ref s), some (.int (few : Int)), v1, v2]) ∧ Same H H') ⟨⟨_, _, rfl⟩, Same.refl H⟩ (fun i σ H' _ p => SqL.of (p.2 _ _ hs)) ?_ ?_⟩
    · rintro i x σ H1 H2 hi ⟨⟨v1, v2, rfl⟩, S⟩ ⟨T2, x1, y1, rfl, hT, rfl, hx1, hy1⟩
      obtain rfl := Option.some.inj hx1
      obtain ⟨b, _, rfl⟩ := map_of hy1
      have sT := same_new (o := .tup [V.int (i : Nat), .int b]) hT
      refine ⟨T2, _, rfl, SqT.of upd_same, rfl, _, _, rfl, _, _, rfl, rfl, ?_⟩
      exact ⟨_, rfl, b, rfl, true, rfl, iteF ⟨⟨_, _, rfl⟩, S.trans sT⟩⟩
    · rintro σ H1 ⟨_, S⟩
      exact k H1 S
end
end RS
namespace RS
open PySem L2
/-! ### offsets that repeat, residues -/
def repOffs (gs : List Int) (m : Nat) : List Int := (List.range m).map fun k => pre gs (gs.length - m + k)
def resid (gs : List Int) (m : Nat) (s : Int) : List Int := (repOffs gs m).map fun x => (s + x) % per gs m
theorem resid_len (gs : List Int) (m : Nat) (s : Int) : (resid gs m s).length = m := by simp [resid, repOffs]
theorem cut_last (xs : List V) (i : Nat) (h : i < xs.length) : cutV xs (some (i : Int)) (some (-1)) = (xs.drop i).take (xs.length - 1 - i) := by
  have e : HT.sIx xs.length xs.length (some (-1 : Int)) = xs.length - 1 := by
    show (if (-1 : Int) < 0 then (-1 + (xs.length : Int)).toNat else min (-1 : Int).toNat xs.length) = _
    rw [if_pos (by omega)]
    omega
  unfold cutV
  rw [HT.sIx_nat, e, Nat.min_eq_left (by omega)]
theorem cut_offs {gs : List Int} {m : Nat} (h1 : 1 ≤ m) (h2 : m ≤ gs.length) : cutV ((offs gs).map V.int) (some ((gs.length - m : Nat) : Int)) (some (-1)) = (repOffs gs m).map V.int := by
  have hl : ((offs gs).map V.int).length = gs.length + 1 := by rw [List.length_map, offs_len]
  rw [cut_last _ _ (by rw [hl]; omega), hl]
  refine List.ext_getElem? fun k => ?_
  unfold repOffs
  by_cases hk : k < m
  · rw [List.getElem?_take_of_lt (by omega), List.getElem?_drop, List.getElem?_map, offs_get gs (by omega), List.getElem?_map, List.getElem?_map, List.getElem?_range hk]
    rfl
  · rw [List.getElem?_eq_none (by rw [List.length_take, List.length_drop, hl]; omega), List.getElem?_eq_none (by simp; omega)]
section
variable {P : Program} {w : World} {K : PySem.W.Frag} {mg : Str → Option Value} {base : Heap}
def spLO (C : Addr) : Sp := fun vs H Q _ => ∃ (p g t o : Addr) (gs : List Int) (tl : Tl), vs = [.ref p] ∧ RuleAt C H p g t o gs tl ∧ ∀ q H', H q = none → Same H H' → H' q = some (.lst ((offs gs).map V.int)) → Q (.ref q) H'
theorem scLO : FnScope ["rule"] ["rule"] (defScope s_listed_offsets) := ⟨rfl, rfl, rfl, by decide +kernel, rfl, by decide +kernel, by decide +kernel⟩
theorem ok_lo {f C fS fG : Addr} {fd fdS fdG : FuncData} (F : Fun K "listed_offsets" "listed_offsets" s_listed_offsets f fd) (T : Txt K mg C) (GS : FnOk P w K mg base CX0 1 fS fdS ["gaps"] spSums) (bS : Binds K fdS ["gaps"] []) (mS : mg "sums" = some (.ref fS)) (kS : PySem.W.keepIn K (.ref fS) = true)
    (GG : FnOk P w K mg base CX0 1 fG fdG ["self"] (spGaps C)) (bG : Binds K fdG ["self"] []) (mG : Meth K C "gaps" fG) : FnOk P w K mg base CX0 2 f fd ["rule"] (spLO C) := by
  refine F.ok scLO (fun vs H Q E h => ?_) (fun cdv A outer s H vs Q E hr h => ?_)
  · obtain ⟨p, g, t, o, gs, tl, rfl, _⟩ := h
    rfl
  · obtain ⟨p, g, t, o, gs, tl, rfl, R, k⟩ := h
    refine ⟨_, (pss_one (ps_ret (pe_call GS hr rfl mS kS bS .nil pass0 (pa_cons (pe_meth0 (pv 0) T.cl mG GG hr bG .nil pass0) pa_nil)))), ?_⟩
    obtain ⟨dx, hob⟩ := R.ob
    have hl := R.okG.1
    refine ⟨_, rfl, p, dx, _, rfl, hob, flds_no _ _ _ (by decide +kernel) (by decide +kernel) (by decide +kernel), p, g, t, o, gs, tl, rfl, R, fun l hl0 => ?_⟩
    have S := same_new (o := .lst (gs.map V.int)) hl0
    refine ⟨l, gs, rfl, upd_same, by omega, fun q H' hq S' hq' => k q H' (S.free hq) (S.trans S') hq'⟩
def spRO (C : Addr) : Sp := fun vs H Q _ => ∃ (p g t o : Addr) (gs : List Int) (m : Nat), vs = [.ref p] ∧ RuleAt C H p g t o gs (.rep m) ∧ ∀ q H', H q = none → Same H H' → H' q = some (.lst ((repOffs gs m).map V.int)) → Q (.ref q) H'
theorem scRO : FnScope ["rule"] ["rule"] (defScope s_repeating_offsets) := ⟨rfl, rfl, rfl, by decide +kernel, rfl, by decide +kernel, by decide +kernel⟩
theorem ok_ro {f C fL fR : Addr} {fd fdL fdR : FuncData} (F : Fun K "repeating_offsets" "repeating_offsets" s_repeating_offsets f fd) (T : Txt K mg C) (GL : FnOk P w K mg base CX0 2 fL fdL ["rule"] (spLO C)) (bL : Binds K fdL ["rule"] []) (mL : mg "listed_offsets" = some (.ref fL)) (kL : PySem.W.keepIn K (.ref fL) = true)
    (GR : FnOk P w K mg base CX0 1 fR fdR ["self"] (spFR C)) (bR : Binds K fdR ["self"] []) (mR : Meth K C "first_repeating" fR) : FnOk P w K mg base CX0 3 f fd ["rule"] (spRO C) := by
  refine F.ok scRO (fun vs H Q E h => ?_) (fun cdv A outer s H vs Q E hr h => ?_)
  · obtain ⟨p, g, t, o, gs, m, rfl, _⟩ := h
    rfl
  · obtain ⟨p, g, t, o, gs, m, rfl, R, k⟩ := h
    have hr1 := hr.mono (show 1 ≤ 2 by decide)
    refine ⟨_, (pss_cons (ps_if (pt_cmpR op_isN (pe_meth0 (pv 0) T.cl mR GR hr1 bR .nil pass0) pe_non (nomark _)) (pss_one (ps_ret (pe_lst pa_nil))) pss_nil) (pss_one (ps_ret (pe_slice sl_list (pe_call GL hr rfl mL kL bL .nil pass0 (pa_cons (pv 0) pa_nil)) (po_some (pe_meth0 (pv 0) T.cl mR GR hr1 bR .nil pass0)) (po_some (pe_un un_neg pe_int)))))), ?_⟩
    obtain ⟨dx, hob⟩ := R.ob
    have hm0 : 1 ≤ m := R.okT.1
    have hm1 : m ≤ gs.length := R.okT.2
    have nF : (flds g t o).lookup ("first_repeating" : Str) = none := flds_no _ _ _ (by decide +kernel) (by decide +kernel) (by decide +kernel)
    refine ⟨_, rfl, p, dx, _, rfl, hob, nF, p, g, t, o, gs, m, rfl, R, rfl, _, rfl, iteFb (decide_eq_false fun e => nomatch e) ?_⟩
    refine ⟨_, rfl, p, g, t, o, gs, .rep m, rfl, R, fun q H1 hq S1 hq1 => ?_⟩
    have R1 := R.mono S1
    obtain ⟨dx1, hob1⟩ := R1.ob
    refine ⟨_, rfl, p, dx1, _, rfl, hob1, nF, p, g, t, o, gs, m, rfl, R1, _, rfl, _, rfl, _, rfl, q, _, rfl, SqL.of hq1, fun l hl => ?_⟩
    rw [cut_offs hm0 hm1]
    exact k l _ (S1.free hl) (S1.trans (same_new hl)) upd_same
def spRes (C : Addr) : Sp := fun vs H Q _ => ∃ (p g t o : Addr) (gs : List Int) (m : Nat) (s : Int), vs = [.ref p, .int s] ∧ RuleAt C H p g t o gs (.rep m) ∧ ∀ q H', H q = none → Same H H' → H' q = some (.lst ((resid gs m s).map V.int)) → Q (.ref q) H'
theorem scRes : FnScope ["rule", "start", "offset"] ["rule", "start"] (defScope s_residues) := ⟨rfl, rfl, rfl, by decide +kernel, rfl, by decide +kernel, by decide +kernel⟩
theorem ok_res {f C fO fP : Addr} {fd fdO fdP : FuncData} (F : Fun K "_residues" "_residues" s_residues f fd) (T : Txt K mg C) (GO : FnOk P w K mg base CX0 3 fO fdO ["rule"] (spRO C)) (bO : Binds K fdO ["rule"] []) (mO : mg "repeating_offsets" = some (.ref fO)) (kO : PySem.W.keepIn K (.ref fO) = true)
    (GP : FnOk P w K mg base CX0 2 fP fdP ["self"] (spPer C)) (bP : Binds K fdP ["self"] []) (mP : Meth K C "period" fP) : FnOk P w K mg base CX0 4 f fd ["rule", "start"] (spRes C) := by
  refine F.ok scRes (fun vs H Q E h => ?_) (fun cdv A outer s H vs Q E hr h => ?_)
  · obtain ⟨p, g, t, o, gs, m, s, rfl, _⟩ := h
    rfl
  · obtain ⟨p, g, t, o, gs, m, st, rfl, R, k⟩ := h
    have hr2 := hr.mono (show 2 ≤ 3 by decide)
    have hm0 : 1 ≤ m := R.okT.1
    have hm1 : m ≤ gs.length := R.okT.2
    have hp := per_bd R.okG hm0 hm1
    have hg := R.okG.1
    refine ⟨_, (pss_one (ps_ret (pe_lc (own := [("offset", 2)]) (g := gName 2) (tt := tYes) rfl scRes.nd (pi_list (pe_call GO hr rfl mO kO bO .nil pass0 (pa_cons (pv 0) pa_nil))) (blkOk_by (own := [("offset", 2)]) (N := ["rule", "start", "offset"]) (sc := defScope s_residues) (by decide +kernel))
        (fun _ _ _ _ _ => (pg_name (i := 2) scRes.nd rfl (Or.inl rfl))) (fun _ _ _ _ _ => pts_nil) (fun _ _ _ _ _ => (pe_op op_mod (pe_op op_add (pv 1) (pv 2)) (pe_meth0 (pv 0) T.cl mP GP hr2 bP .nil pass0)))))), ?_⟩
    refine ⟨_, rfl, p, g, t, o, gs, m, rfl, R, fun q H1 hq S1 hq1 => ?_⟩
    refine ⟨q, rfl, ⟨_, SqL.of hq1⟩, fun D hD => lc_map (a := q) (xs := (repOffs gs m).map V.int) ((resid gs m st).map V.int) (SqL.of hq1) hD (by simp [resid]) (by simp [repOffs]; omega) (fun i x y H2 Q2 hx hy S2 q2 => ?_) (fun H2 S2 h2 => k D H2 (S1.free hD) (S1.trans S2) h2)⟩
    obtain ⟨x, hx', rfl⟩ := map_of hx
    obtain ⟨y, hy', rfl⟩ := map_of hy
    have ey : y = (st + x) % per gs m := by
      unfold resid at hy'
      rw [List.getElem?_map, hx'] at hy'
      exact (Option.some.inj hy').symm
    have R2 := (R.mono S1).mono S2
    obtain ⟨dx, hob⟩ := R2.ob
    refine ⟨rfl, _, rfl, _, rfl, _, _, rfl, rfl, ?_⟩
    refine ⟨_, rfl, p, dx, _, rfl, hob, flds_no _ _ _ (by decide +kernel) (by decide +kernel) (by decide +kernel), p, g, t, o, gs, .rep m, rfl, R2, _, _, rfl, rfl, (by show (0 : Int) < per gs m; omega), ?_⟩
    have := q2 H2 (Same.refl H2)
    rw [ey] at this
    exact this
/-! ### tables: lists of lists -/
theorem mem_get {α : Type} {xs : List α} {i : Nat} {x : α} (h : xs[i]? = some x) : x ∈ xs := List.mem_of_getElem? h
def LsAt (H : Hp) (ts : List Addr) (T : List (List Int)) : Prop := ts.length = T.length ∧ ∀ (i : Nat) (r : List Int), T[i]? = some r → ∃ p, ts[i]? = some p ∧ H p = some (.lst (r.map V.int))
theorem LsAt.mono {H H' : Hp} {ts : List Addr} {T : List (List Int)} (h : LsAt H ts T) (S : Same H H') : LsAt H' ts T := ⟨h.1, fun i r e => let ⟨p, h1, h2⟩ := h.2 i r e; ⟨p, h1, S _ _ h2⟩⟩
theorem LsAt.nil (H : Hp) : LsAt H [] [] := ⟨rfl, fun i r e => by simp at e⟩
theorem LsAt.snoc {H : Hp} {ts : List Addr} {T : List (List Int)} {p : Addr} {r : List Int} (h : LsAt H ts T) (hp : H p = some (.lst (r.map V.int))) : LsAt H (ts ++ [p]) (T ++ [r]) := by
  refine ⟨by simp [h.1], fun i x e => ?_⟩
  by_cases hi : i < T.length
  · rw [List.getElem?_append_left hi] at e
    rw [List.getElem?_append_left (by rw [h.1]; exact hi)]
    exact h.2 i x e
  · rw [List.getElem?_append_right (by omega)] at e
    have e0 : i - T.length = 0 := by
      by_cases h0 : i - T.length = 0
      · exact h0
      · rw [List.getElem?_eq_none (by simp; omega)] at e
        cases e
    rw [e0] at e
    cases e
    rw [List.getElem?_append_right (by rw [h.1]; omega), h.1, e0]
    exact ⟨p, rfl, hp⟩
theorem LsAt.off {H : Hp} {ts : List Addr} {T : List (List Int)} {D : Addr} {o : HO} (h : LsAt H ts T) (n : ∀ p ∈ ts, p ≠ D) : LsAt (upd H D o) ts T :=
  ⟨h.1, fun i r e => let ⟨p, h1, h2⟩ := h.2 i r e; ⟨p, h1, by rw [upd_ne (n p (mem_get h1))]; exact h2⟩⟩
def spTab (C : Addr) : Sp := fun vs H Q _ => ∃ (p g t o b : Addr) (gs : List Int) (m : Nat) (bs : List Int), vs = [.ref p, .ref b] ∧ RuleAt C H p g t o gs (.rep m) ∧ H b = some (.lst (bs.map V.int)) ∧ bs.length ≤ 1000 ∧ ∀ q ts H', H q = none → Same H H' → H' q = some (.lst (ts.map V.ref)) → LsAt H' ts (bs.map (resid gs m)) → Q (.ref q) H'
theorem scTab : FnScope ["rule", "starts", "start"] ["rule", "starts"] (defScope s_residue_table) := ⟨rfl, rfl, rfl, by decide +kernel, rfl, by decide +kernel, by decide +kernel⟩
theorem ok_tab {f C fR : Addr} {fd fdR : FuncData} (F : Fun K "_residue_table" "_residue_table" s_residue_table f fd) (T : Txt K mg C) (GR : FnOk P w K mg base CX0 4 fR fdR ["rule", "start"] (spRes C)) (bR : Binds K fdR ["rule", "start"] []) (mR : mg "_residues" = some (.ref fR)) (kR : PySem.W.keepIn K (.ref fR) = true) : FnOk P w K mg base CX0 5 f fd ["rule", "starts"] (spTab C) := by
  refine F.ok scTab (fun vs H Q E h => ?_) (fun cdv A outer s H vs Q E hr h => ?_)
  · obtain ⟨p, g, t, o, b, gs, m, bs, rfl, _⟩ := h
    rfl
  · obtain ⟨p, g, t, o, b, gs, m, bs, rfl, R, hb, hbl, k⟩ := h
    refine ⟨_, (pss_one (ps_ret (pe_lc (own := [("start", 2)]) (g := gName 2) (tt := tYes) rfl scTab.nd (pi_list (pv 1)) (blkOk_by (own := [("start", 2)]) (N := ["rule", "starts", "start"]) (sc := defScope s_residue_table) (by decide +kernel))
        (fun _ _ _ _ _ => (pg_name (i := 2) scTab.nd rfl (Or.inl rfl))) (fun _ _ _ _ _ => pts_nil) (fun _ _ _ _ _ => (pe_call GR hr rfl mR kR bR .nil pass0 (pa_cons (pv 0) (pa_cons (pv 2) pa_nil))))))), ?_⟩
    refine ⟨_, rfl, b, rfl, ⟨_, SqL.of hb⟩, fun D hD => lc_list (a := b) (xs := bs.map V.int) (fun i H' => Same H H' ∧ ∃ ts, H' D = some (.lst (ts.map V.ref)) ∧ LsAt H' ts ((bs.take i).map (resid gs m)) ∧ ∀ p ∈ ts, p ≠ D) ⟨same_app hD (fun _ _ e => e), [], upd_same, LsAt.nil _, fun p hp => nomatch hp⟩ (fun i H' _ q => q.1.seq (SqL.of hb)) (fun i x H1 hx q => ?_) (fun H1 q => ?_)⟩
    · obtain ⟨S, ts, hts, L, nD⟩ := q
      have hi := (List.getElem?_eq_some_iff.mp hx).1
      rw [List.length_map] at hi
      obtain ⟨x, hx', rfl⟩ := map_of hx
      refine ⟨rfl, yes_t (iteT ?_)⟩
      refine ⟨_, rfl, _, rfl, p, g, t, o, gs, m, x, rfl, R.mono S, fun q H2 hq S2 hq2 => ?_⟩
      have hD2 := S2 _ _ hts
      have hlt := L.1
      rw [List.length_map, List.length_take] at hlt
      have nq : q ≠ D := fun z => by rw [z, hts] at hq; cases hq
      have nD2 : ∀ p ∈ ts ++ [q], p ≠ D := fun p' hp => by
        rcases List.mem_append.mp hp with h | h
        · exact nD p' h
        · rw [List.mem_singleton.mp h]
          exact nq
      refine ⟨_, hD2, ?_, same_app hD (S.trans S2), ts ++ [q], ?_, ?_, nD2⟩
      · rw [List.length_map]
        exact small_line (by omega)
      · rw [upd_same, List.map_append]
        rfl
      · rw [List.take_add_one, hx', List.map_append]
        exact ((L.mono S2).snoc hq2).off nD2
    · obtain ⟨S, ts, hts, L, _⟩ := q
      rw [List.length_map, List.take_length] at L
      exact k D ts H1 hD S hts L
end
end RS
namespace RS
open PySem L2
/-! ### closed sets of clients -/
def nV (n : Nat) : V := .int (n : Int)
def cnt (T : List (List Int)) (cs : List Nat) (r : Int) : Nat := (cs.map fun c => (T.getD c []).count r).sum
def fits (T : List (List Int)) (cs : List Nat) (c : Nat) : Bool := (T.getD c []).all fun r => decide (1 < cnt T cs r)
def stepC (T : List (List Int)) (cs : List Nat) : List Nat := cs.filter (fits T cs)
def ClosedS (T : List (List Int)) (M : List Nat) : Prop := ∀ c ∈ M, fits T M c = true
theorem sum_sub (f : Nat → Nat) : ∀ {M ks : List Nat}, M.Nodup → (∀ x ∈ M, x ∈ ks) → (M.map f).sum ≤ (ks.map f).sum
  | [], _, _, _ => by simp
  | x :: M, ks, hn, hs => by
    have hx := hs x (List.mem_cons_self ..)
    have e := ((List.perm_cons_erase hx).map f).sum_nat
    rw [List.map_cons, List.sum_cons] at e
    have ih := sum_sub f (M := M) (ks := ks.erase x) (List.nodup_cons.mp hn).2 fun y hy => (List.mem_erase_of_ne fun z => (List.nodup_cons.mp hn).1 (by rw [← z]; exact hy)).mpr (hs y (List.mem_cons_of_mem _ hy))
    rw [List.map_cons, List.sum_cons, e]
    omega
theorem cnt_sub {T : List (List Int)} {M ks : List Nat} (hn : M.Nodup) (hs : ∀ x ∈ M, x ∈ ks) (r : Int) : cnt T M r ≤ cnt T ks r := sum_sub _ hn hs
theorem fits_sub {T : List (List Int)} {M ks : List Nat} (hn : M.Nodup) (hs : ∀ x ∈ M, x ∈ ks) {c : Nat} (h : fits T M c = true) : fits T ks c = true := by
  unfold fits at h ⊢
  rw [List.all_eq_true] at h ⊢
  intro r hr
  have := of_decide_eq_true (h r hr)
  have := cnt_sub (T := T) hn hs r
  exact decide_eq_true (by omega)
theorem step_keeps {T : List (List Int)} {M ks : List Nat} (hc : ClosedS T M) (hn : M.Nodup) (hs : ∀ x ∈ M, x ∈ ks) : ∀ x ∈ M, x ∈ stepC T ks := fun x hx => List.mem_filter.mpr ⟨hs x hx, fits_sub hn hs (hc x hx)⟩
theorem step_closed {T : List (List Int)} {ks : List Nat} (h : stepC T ks = ks) : ClosedS T ks := fun c hc => by
  rw [← h] at hc
  exact (List.mem_filter.mp hc).2
theorem count_one (z y : Int) : List.count z [y] = if z = y then 1 else 0 := by
  by_cases e : z = y
  · subst e
    simp
  · rw [if_neg e, List.count_eq_zero]
    simpa using e
theorem mem_le_sum : ∀ {l : List Nat} {x : Nat}, x ∈ l → x ≤ l.sum
  | y :: l, x, h => by
    rw [List.sum_cons]
    rcases List.mem_cons.mp h with rfl | h
    · omega
    · have := mem_le_sum h
      omega
theorem cnt_snoc (T : List (List Int)) (cs : List Nat) (c : Nat) (r : Int) : cnt T (cs ++ [c]) r = cnt T cs r + (T.getD c []).count r := by
  unfold cnt
  rw [List.map_append, List.sum_append]
  simp
/-- ks is what is left of cs -/
structure Left (T : List (List Int)) (cs ks : List Nat) : Prop where
  sub : ks.Sublist cs
  all : ∀ M, ClosedS T M → M.Nodup → (∀ x ∈ M, x ∈ cs) → ∀ x ∈ M, x ∈ ks
theorem Left.refl (T : List (List Int)) (cs : List Nat) : Left T cs cs := ⟨List.Sublist.refl _, fun _ _ _ h => h⟩
theorem Left.step {T : List (List Int)} {cs ks : List Nat} (h : Left T cs ks) : Left T cs (stepC T ks) := ⟨(List.filter_sublist).trans h.sub, fun M hc hn hs => step_keeps hc hn (h.all M hc hn hs)⟩
/-- a dict that counts -/
def CntD (kvs : List (Key × V)) (f : Int → Nat) : Prop := ∀ r : Int, valV kvs (Sum.inl r) = if f r = 0 then none else some (.int (f r : Int))
theorem CntD.nil : CntD [] fun _ => 0 := fun r => by rw [if_pos rfl]; rfl
theorem CntD.get {kvs : List (Key × V)} {f : Int → Nat} (h : CntD kvs f) (r : Int) : (valV kvs (Sum.inl r)).getD (.int 0) = .int (f r : Int) := by
  rw [h r]
  split
  · rename_i e
    rw [e]
    rfl
  · rfl
theorem CntD.put {kvs : List (Key × V)} {f g : Int → Nat} (h : CntD kvs f) (r : Int) (hg : ∀ x, g x = f x + if x = r then 1 else 0) : CntD (putK kvs (Sum.inl r) (.int ((f r : Int) + 1))) g := fun x => by
  rw [valV_put, hg x]
  by_cases e : x = r
  · subst e
    rw [if_pos rfl, if_pos rfl, if_neg (by omega)]
    congr 2
  · rw [if_neg (fun z => e (Sum.inl.inj z)), if_neg e, h x]
    rfl
theorem CntD.congr {kvs : List (Key × V)} {f g : Int → Nat} (h : CntD kvs f) (e : ∀ x, g x = f x) : CntD kvs g := fun x => by rw [e x]; exact h x
theorem sel_filter {α : Type} (xs : List α) (f : α → Bool) (h : α → V) : ∀ i, i ≤ xs.length → selTo (fun j : Nat => (xs[j]?).bind fun c => if f c = true then some (h c) else none) i = ((xs.take i).filter f).map h
  | 0, _ => rfl
  | i + 1, hi => by
    rw [selTo_succ, sel_filter xs f h i (by omega), List.take_add_one, List.filter_append, List.map_append]
    congr 1
    rw [List.getElem?_eq_getElem (by omega)]
    show (if f xs[i] = true then some (h xs[i]) else none).toList = _
    cases e : f xs[i] <;> simp [e]
theorem nmap_of {xs : List Nat} {i : Nat} {x : V} (hx : (xs.map nV)[i]? = some x) : ∃ g, xs[i]? = some g ∧ x = .int (g : Int) := by
  rw [List.getElem?_map] at hx
  cases e : xs[i]? with
  | none => rw [e] at hx; cases hx
  | some g => rw [e] at hx; exact ⟨g, rfl, (Option.some.inj hx).symm⟩
section
variable {P : Program} {w : World} {K : PySem.W.Frag} {mg : Str → Option Value} {base : Heap}
def spGC : Sp := fun vs H Q _ => ∃ (tb c : Addr) (ts : List Addr) (T : List (List Int)) (cs : List Nat), vs = [.ref tb, .ref c] ∧ H tb = some (.lst (ts.map V.ref)) ∧ LsAt H ts T ∧ H c = some (.lst (cs.map nV)) ∧ (∀ x ∈ cs, x < T.length) ∧ cs.length ≤ 40 ∧ (∀ r ∈ T, r.length ≤ 20) ∧
  ∀ ks q H', H q = none → Same H H' → Left T cs ks → stepC T ks = ks → H' q = some (.lst (ks.map nV)) → Q (.ref q) H'
def gcN : List Str := ["table", "clients", "counts", "client", "residue", "kept"]
theorem scGC : FnScope gcN ["table", "clients"] (defScope s_greatest_closed) := ⟨rfl, rfl, rfl, by decide +kernel, rfl, by decide +kernel, by decide +kernel⟩
def scGc1 : Scope := { kind := .function, names := [(".0", .local), ("client", .local), ("all", .globalImplicit), ("counts", .cell), ("table", .cell)], isGenerator := false, isCoroutine := false }
theorem ok_gc {f C : Addr} {fd : FuncData} (F : Fun K "_greatest_closed" "_greatest_closed" s_greatest_closed f fd) (T : Txt K mg C) : FnOk P w K mg base CX0 1 f fd ["table", "clients"] spGC := by
  refine F.ok scGC (fun vs H Q E h => ?_) (fun cdv A outer s H vs Q E hr h => ?_)
  · obtain ⟨tb, c, ts, TT, cs, rfl, _⟩ := h
    rfl
  · obtain ⟨tb, c, ts, TT, cs, rfl, htb, hL, hc, hin, hcl, hrl, k⟩ := h
    have hu := hu_of hr
    refine ⟨_, pss_one (ps_while PassesOwn.never (pt_val pe_bl) (pss_cons (ps_set (i := 2) scGC.nd rfl (Or.inr rfl) pe_dnewK) (pss_cons (ps_for PassesOwn.never rfl (pi_list (pv 1)) (pg_name (i := 3) scGC.nd rfl (Or.inl rfl)) (pss_one (ps_for PassesOwn.never rfl (pi_list (pe_ix ix_list (pv 0) (pv 3) (fun _ _ => rfl))) (pg_name (i := 4) scGC.nd rfl (Or.inl rfl)) (pss_one (ps_dput hu (pv 2) (pv 4) (pe_op op_add (pe_dget2 hu (pv 2) (pv 4) pe_int ⟨by rfl, by rfl, by rfl, by rfl⟩) pe_int) rfl))))) (pss_cons (ps_setLc (i := 5) (own := [("client", 3)]) (g := gName 3) (by rfl) scGC.nd rfl rfl (sw_true rfl rfl rfl (by decide +kernel)) (pi_list (pv 1)) (blkOk_by (own := [("client", 3)]) (N := gcN) (sc := (defScope s_greatest_closed)) (by decide +kernel)) (fun _ _ _ _ _ => (pg_name (i := 3) scGC.nd rfl (Or.inl rfl))) (fun _ _ _ _ _ => pts_one (pt_val (pe_allK K (by rfl) rfl (by rfl) T.all (pe_lc (own := [("residue", 4)]) (g := gName 4) (tt := tYes) rfl scGC.nd (pi_listK K (by rfl) (pe_ixK K (by rfl) (pv 0) (pv 3))) (blkOk_by (own := [("residue", 4)]) (N := gcN) (sc := scGc1) (by decide +kernel)) (fun _ _ _ _ _ => (pg_name (i := 4) scGC.nd rfl (Or.inl rfl))) (fun _ _ _ _ _ => pts_nil) (fun _ _ _ _ _ => (pe_cmpR op_gt (pe_dget hu (pv 2) (pv 4) (fun _ _ => rfl)) pe_int (nomark _))))))) (fun _ _ _ _ _ => (pv 3))) (pss_cons (ps_if (pt_cmpR op_eq (pe_callB call_len_seq (by rfl) T.len (by decide +kernel) (pa_cons (pv 5) pa_nil)) (pe_callB call_len_seq (by rfl) T.len (by decide +kernel) (pa_cons (pv 1) pa_nil)) (nomark _)) (pss_one (ps_ret (pv 5))) pss_nil) (pss_one (ps_set (i := 1) scGC.nd rfl (Or.inl rfl) (pv 5)))))))), ?_⟩
    refine ⟨fun m σ H' => Same H H' ∧ ∃ c' ks v2 v3 v4 v5, σ = [some (.ref tb), some (.ref c'), v2, v3, v4, v5] ∧ H' c' = some (.lst (ks.map nV)) ∧ Left TT cs ks ∧ m = ks.length, ⟨cs.length, Same.refl H, c, cs, none, none, none, none, rfl, hc, Left.refl _ _, rfl⟩, ?_⟩
    rintro m σ H1 ⟨S1, c1, ks, v2, v3, v4, v5, rfl, hc1, hk, rfl⟩
    have hks : ∀ x ∈ ks, x < TT.length := fun x hx => hin x (hk.sub.subset hx)
    have hkl : ks.length ≤ 40 := Nat.le_trans hk.sub.length_le hcl
    have row : ∀ {i : Nat} {g : Nat}, ks[i]? = some g → ∃ (p : Addr) (r : List Int), TT[g]? = some r ∧ TT.getD g [] = r ∧ ts[g]? = some p ∧ H1 p = some (.lst (r.map V.int)) ∧ r.length ≤ 20 := fun {i g} h => by
      have hg := hks g (List.mem_of_getElem? h)
      have e := List.getElem?_eq_getElem hg
      obtain ⟨p, h1, h2⟩ := (hL.mono S1).2 g _ e
      exact ⟨p, _, e, by rw [List.getD_eq_getElem?_getD, e]; rfl, h1, h2, hrl _ (List.getElem_mem hg)⟩
    refine ⟨true, rfl, iteT ?_⟩
    refine ⟨fun σ' H' => Same H H' ∧ ∃ c' ks' v2 v3 v4 v5, σ' = [some (.ref tb), some (.ref c'), v2, v3, v4, v5] ∧ H' c' = some (.lst (ks'.map nV)) ∧ Left TT cs ks' ∧ ks'.length < ks.length, ?_, ?_⟩
    · rintro σ' H' ⟨S, c', ks', v2, v3, v4, v5, rfl, h1, h2, h3⟩
      exact ⟨_, h3, S, c', ks', v2, v3, v4, v5, rfl, h1, h2, rfl⟩
    intro d hd
    have hdt : tb ≠ d := ne_of_none (S1 _ _ htb) hd
    have hdc : c1 ≠ d := ne_of_none hc1 hd
    -- the counts
    refine ⟨_, rfl, c1, rfl, ⟨_, SqL.of (by rw [upd_ne hdc]; exact hc1)⟩, for_list (a := c1) (xs := ks.map nV) (fun i σ H' => Kx d H1 H' ∧ ∃ kvs v3 v4, σ = [some (.ref tb), some (.ref c1), some (.ref d), v3, v4, v5] ∧ H' d = some (.dK kvs) ∧ CntD kvs (cnt TT (ks.take i)) ∧ kvs.length ≤ 20 * i)
      ⟨fun b o nb e => by rw [upd_ne nb]; exact e, [], v3, v4, rfl, upd_same, CntD.nil, Nat.zero_le _⟩ (fun i σ H' _ q => SqL.of (q.1 _ _ hdc hc1)) ?_ ?_⟩
    · rintro i x σ H2 hx ⟨K2, kvs, w3, w4, rfl, hd2, hC, hkv⟩
      have hi := (List.getElem?_eq_some_iff.mp hx).1
      rw [List.length_map] at hi
      obtain ⟨g, hg, rfl⟩ := nmap_of hx
      obtain ⟨p, r, hr0, hr1, hp, hpr, hr20⟩ := row hg
      have npd : p ≠ d := ne_of_none hpr hd
      refine ⟨_, rfl, _, rfl, tb, _, _, .ref p, rfl, rfl, SqL.of (K2 _ _ hdt (S1 _ _ htb)), atI_nat (by rw [List.getElem?_map, hp]; rfl), ?_⟩
      refine ⟨p, rfl, ⟨_, SqL.of (K2 _ _ npd hpr)⟩, for_list (a := p) (xs := r.map V.int) (fun j σ H' => Kx d H1 H' ∧ ∃ kvs v4, σ = [some (.ref tb), some (.ref c1), some (.ref d), some (.int (g : Int)), v4, v5] ∧ H' d = some (.dK kvs) ∧ CntD kvs (fun y => cnt TT (ks.take i) y + (r.take j).count y) ∧ kvs.length ≤ 20 * i + j)
        ⟨K2, kvs, w4, rfl, hd2, hC.congr (fun y => by simp), hkv⟩ (fun j σ H' _ q => SqL.of (q.1 _ _ npd hpr)) ?_ ?_⟩
      · rintro j x σ H3 hx ⟨K3, kvs3, w4, rfl, hd3, hC3, hkv3⟩
        have hj := (List.getElem?_eq_some_iff.mp hx).1
        rw [List.length_map] at hj
        obtain ⟨y, hy, rfl⟩ := map_of hx
        refine ⟨_, rfl, d, rfl, .inl ⟨kvs3, .inl hd3⟩, _, rfl, _, DGet.k (k := Sum.inl y) hd3, ?_⟩
        rw [hC3.get y]
        refine ⟨_, _, rfl, rfl, _, rfl, _, rfl, d, _, rfl, DPut.k (k := Sum.inl y) hd3 (small_line (by omega)), ?_⟩
        refine ⟨K3.trans Kx.upd, _, _, rfl, upd_same, hC3.put y (fun z => ?_), ?_⟩
        · rw [List.take_add_one, hy, List.count_append]
          show _ + (_ + List.count z [y]) = _
          rw [count_one]
          omega
        · exact Nat.le_trans (length_putK _ _ _) (by omega)
      · rintro σ H3 ⟨K3, kvs3, w4, rfl, hd3, hC3, hkv3⟩
        rw [List.length_map, List.take_length] at hC3
        rw [List.length_map] at hkv3
        refine ⟨K3, kvs3, _, _, rfl, hd3, hC3.congr (fun y => ?_), by omega⟩
        rw [List.take_add_one, hg]
        show cnt TT (ks.take i ++ [g]) y = _
        rw [cnt_snoc, hr1]
    rintro σ H2 ⟨K2, kvs, w3, w4, rfl, hd2, hC, _⟩
    rw [List.length_map, List.take_length] at hC
    have S2 : Same H H2 := fun b o e => K2 _ _ (ne_of_none (S1 _ _ e) hd) (S1 _ _ e)
    have hc2 := K2 _ _ hdc hc1
    -- what is kept
    refine ⟨_, rfl, c1, rfl, ⟨_, SqL.of hc2⟩, fun D hD => lc_sel (a := c1) (xs := ks.map nV) (fun i : Nat => (ks[i]?).bind fun c => if fits TT ks c = true then some (nV c) else none) (SqL.of hc2) hD (by rw [List.length_map]; omega) ?_ ?_⟩
    · rintro i x H3 Q3 hx S3 q
      obtain ⟨g, hg, rfl⟩ := nmap_of hx
      obtain ⟨p, r, hr0, hr1, hp, hpr, hr20⟩ := row hg
      have npd : p ≠ d := ne_of_none hpr hd
      have hp3 := S3 _ _ (K2 _ _ npd hpr)
      refine ⟨rfl, ?_⟩
      refine ⟨_, rfl, _, rfl, tb, _, _, .ref p, rfl, rfl, SqL.of (S3 _ _ (S2 _ _ htb)), atI_nat (by rw [List.getElem?_map, hp]; rfl), ?_⟩
      refine ⟨p, rfl, ⟨_, SqL.of hp3⟩, fun D2 hD2 => lc_map (a := p) (xs := r.map V.int) ((r.map fun y => decide (((cnt TT ks y : Nat) : Int) > 1)).map V.bl) (SqL.of hp3) hD2 (by simp) (by rw [List.length_map]; omega) (fun j x y H4 Q4 hx hy S4 q4 => ?_) (fun H4 S4 h4 => ?_)⟩
      · obtain ⟨x, hx', rfl⟩ := map_of hx
        have ey : y = .bl (decide (((cnt TT ks x : Nat) : Int) > 1)) := by
          rw [List.getElem?_map, List.getElem?_map, hx'] at hy
          exact (Option.some.inj hy).symm
        have hpos : cnt TT ks x ≠ 0 := by
          have h1 : x ∈ TT.getD g [] := by rw [hr1]; exact mem_get hx'
          have h2 := List.count_pos_iff.mpr h1
          have h3 := mem_le_sum (List.mem_map.mpr ⟨g, mem_get hg, rfl⟩ : (TT.getD g []).count x ∈ ks.map fun c => (TT.getD c []).count x)
          unfold cnt
          omega
        refine ⟨rfl, _, rfl, _, rfl, d, .int (cnt TT ks x : Int), rfl, ?_, _, _, rfl, rfl, ?_⟩
        · have := DGet.k (k := Sum.inl x) (S4 _ _ (S3 _ _ hd2))
          rw [hC x, if_neg hpos] at this
          exact this
        · rw [ey] at q4
          exact q4 H4 (Same.refl H4)
      · refine ⟨D2, _, rfl, SqL.of h4, _, rfl, ?_⟩
        have ef : (r.map fun y => decide (((cnt TT ks y : Nat) : Int) > 1)).all id = fits TT ks g := by
          unfold fits
          rw [hr1, List.all_map]
          congr 1
          funext y
          exact decide_eq_decide.mpr (by omega)
        rw [ef]
        have q5 := q H4 S4
        rw [hg] at q5
        have q5 : Q3 (if fits TT ks g = true then some (nV g) else none) H4 := q5
        cases hf : fits TT ks g with
        | true => rw [hf] at q5; exact iteT ⟨_, rfl, q5⟩
        | false => rw [hf] at q5; exact iteF q5
    rintro H3 S3 h3
    rw [List.length_map, sel_filter ks (fits TT ks) nV _ (Nat.le_refl _), List.take_length] at h3
    have h3 : H3 D = some (.lst ((stepC TT ks).map nV)) := h3
    refine ⟨_, rfl, D, _, rfl, .inl (SqL.of h3), _, rfl, c1, _, rfl, .inl (SqL.of (S3 _ _ hc2)), rfl, _, rfl, ?_⟩
    have hsl : (stepC TT ks).length ≤ ks.length := (List.filter_sublist).length_le
    rw [List.length_map, List.length_map]
    by_cases he : (stepC TT ks).length = ks.length
    · refine iteTb (by rw [he]; exact decide_eq_true rfl) ?_
      have hst : stepC TT ks = ks := (List.filter_sublist).eq_of_length he
      rw [hst] at h3
      exact ⟨_, rfl, k ks D H3 ((S2.free hD)) (S2.trans S3) hk hst h3⟩
    · refine iteFb (decide_eq_false fun z => he (by have := V.int.inj z; omega)) ?_
      exact ⟨_, rfl, S2.trans S3, D, stepC TT ks, _, _, _, _, rfl, h3, hk.step, by omega⟩
end
end RS
namespace RS
open PySem L2
theorem inV_int (v : Int) (os : List Int) : inV (.int v) (os.map V.int) = decide (v ∈ os) := by
  rw [Bool.eq_iff_iff, decide_eq_true_iff]
  unfold inV
  rw [List.any_eq_true]
  constructor
  · rintro ⟨y, hy, e⟩
    obtain ⟨z, hz, rfl⟩ := List.mem_map.mp hy
    have e : (z == v) = true := e
    rw [← eq_of_beq e]
    exact hz
  · intro h
    exact ⟨.int v, List.mem_map.mpr ⟨v, h, rfl⟩, (beq_self_eq_true v : (v == v) = true)⟩
theorem flat_ints (os : List Int) : (os.map V.int).all flatV = true := by
  rw [List.all_eq_true]
  intro x hx
  obtain ⟨z, _, rfl⟩ := List.mem_map.mp hx
  rfl
theorem nV_ints (xs : List Nat) : xs.map nV = (xs.map fun n : Nat => (n : Int)).map V.int := by
  rw [List.map_map]
  rfl
/-! ### partners -/
def near (T : List (List Int)) (M : List Nat) (c : Nat) (r : Int) : List Nat := M.filter fun o => decide (o ≠ c) && decide (r ∈ T.getD o [])
def mates (T : List (List Int)) (M : List Nat) (c : Nat) : List Nat := (T.getD c []).map fun r => (near T M c r).headD 0
theorem head_least {xs : List Nat} (h : xs.Pairwise (· < ·)) {m : Nat} (hm : m ∈ xs) (hl : ∀ y ∈ xs, m ≤ y) : xs.headD 0 = m := by
  cases xs with
  | nil => cases hm
  | cons x r =>
    rcases List.mem_cons.mp hm with rfl | hm
    · rfl
    · have h1 := (List.pairwise_cons.mp h).1 m hm
      have h2 := hl x (List.mem_cons_self ..)
      omega
section
variable {P : Program} {w : World} {K : PySem.W.Frag} {mg : Str → Option Value} {base : Heap}
def spPart : Sp := fun vs H Q _ => ∃ (tb ms : Addr) (ts : List Addr) (T : List (List Int)) (M : List Nat) (c : Nat), vs = [.ref tb, .int (c : Int), .ref ms] ∧ H tb = some (.lst (ts.map V.ref)) ∧ LsAt H ts T ∧ H ms = some (.lst (M.map nV)) ∧ (∀ x ∈ M, x < T.length) ∧ c < T.length ∧ M.Pairwise (· < ·) ∧ M.length ≤ 40 ∧ (∀ r ∈ T, r.length ≤ 20) ∧
  (∀ r ∈ T.getD c [], near T M c r ≠ []) ∧ ∀ q H', H q = none → Same H H' → H' q = some (.tup ((mates T M c).map nV)) → Q (.ref q) H'
def paN : List Str := ["table", "client", "clients", "others", "other", "residue"]
theorem scPart : FnScope paN ["table", "client", "clients"] (defScope s_partners) := ⟨rfl, rfl, rfl, by decide +kernel, rfl, by decide +kernel, by decide +kernel⟩
def scPa1 : Scope := { kind := .function, names := [(".0", .local), ("residue", .cell), ("min", .globalImplicit), ("others", .cell), ("table", .cell)], isGenerator := false, isCoroutine := false }
theorem ok_part {f C : Addr} {fd : FuncData} (F : Fun K "_partners" "_partners" s_partners f fd) (T : Txt K mg C) : FnOk P w K mg base CX0 1 f fd ["table", "client", "clients"] spPart := by
  refine F.ok scPart (fun vs H Q E h => ?_) (fun cdv A outer s H vs Q E hr h => ?_)
  · obtain ⟨tb, ms, ts, TT, M, c, rfl, _⟩ := h
    rfl
  · obtain ⟨tb, ms, ts, TT, M, c, rfl, htb, hL, hms, hin, hct, hpw, hml, hrl, hne, k⟩ := h
    refine ⟨_, (pss_cons (ps_set (i := 3) scPart.nd rfl (Or.inr rfl) (pe_lc (own := [("other", 4)]) (g := gName 4) rfl scPart.nd (pi_list (pv 2)) (blkOk_by (own := [("other", 4)]) (N := paN) (sc := (defScope s_partners)) (by decide +kernel)) (fun _ _ _ _ _ => (pg_name (i := 4) scPart.nd rfl (Or.inl rfl))) (fun _ _ _ _ _ => pts_one (pt_cmpR op_ne (pv 4) (pv 1) (nomark _))) (fun _ _ _ _ _ => (pv 4)))) (pss_one (ps_ret (pe_callTy call_tuple_of (by rfl) T.tuple (by decide +kernel) (pa_cons (pe_lc (own := [("residue", 5)]) (g := gName 5) (tt := tYes) rfl scPart.nd (pi_list (pe_ix ix_list (pv 0) (pv 1) (fun _ _ => rfl))) (blkOk_by (own := [("residue", 5)]) (N := paN) (sc := defScope s_partners) (by decide +kernel)) (fun _ _ _ _ _ => (pg_name (i := 5) scPart.nd rfl (Or.inr rfl))) (fun _ _ _ _ _ => pts_nil) (fun _ _ _ _ _ =>
        (pe_minK K (by rfl) rfl (by rfl) T.min (pe_lc (own := [("other", 4)]) (g := gName 4) rfl scPart.nd (pi_listK K (by rfl) (pv 3)) (blkOk_by (own := [("other", 4)]) (N := paN) (sc := scPa1) (by decide +kernel)) (fun _ _ _ _ _ => (pg_name (i := 4) scPart.nd rfl (Or.inl rfl))) (fun _ _ _ _ _ => pts_one (pt_cmpR (r := rIn K false) op_in_seq (pv 5) (pe_ixK K (by rfl) (pv 0) (pv 4)) (by rfl))) (fun _ _ _ _ _ => (pv 4)))))) pa_nil))))), ?_⟩
    refine ⟨_, rfl, ms, rfl, ⟨_, SqL.of hms⟩, fun D hD => lc_sel (a := ms) (xs := M.map nV) (fun i : Nat => (M[i]?).bind fun o => if decide (o ≠ c) = true then some (nV o) else none) (SqL.of hms) hD (by rw [List.length_map]; omega) ?_ ?_⟩
    · rintro i x H1 Q1 hx S1 q
      obtain ⟨g, hg, rfl⟩ := nmap_of hx
      refine ⟨rfl, _, rfl, _, rfl, rfl, _, rfl, ?_⟩
      have q5 := q H1 (Same.refl H1)
      rw [hg] at q5
      have q5 : Q1 (if decide (g ≠ c) = true then some (nV g) else none) H1 := q5
      by_cases e : g = c
      · refine iteFb (by rw [e]; show (!decide (V.int (c : Int) = V.int (c : Int))) = false; rw [decide_eq_true rfl]; rfl) ?_
        rw [decide_eq_false (fun z => z e)] at q5
        exact q5
      · refine iteTb (by show (!decide (V.int (g : Int) = V.int (c : Int))) = true; rw [decide_eq_false (fun z => e (by have := V.int.inj z; omega))]; rfl) ⟨_, rfl, ?_⟩
        rw [decide_eq_true e] at q5
        exact q5
    rintro H1 S1 h1
    rw [List.length_map, sel_filter M (fun o => decide (o ≠ c)) nV _ (Nat.le_refl _), List.take_length] at h1
    generalize hO : M.filter (fun o => decide (o ≠ c)) = O at h1
    have hOs : O.Sublist M := by rw [← hO]; exact List.filter_sublist
    have hnear : ∀ r, near TT M c r = O.filter fun o => decide (r ∈ TT.getD o []) := fun r => by
      rw [← hO, List.filter_filter]
      unfold near
      congr 1
      funext o
      exact Bool.and_comm _ _
    have row : ∀ {H2 : Hp} {g : Nat}, Same H H2 → g < TT.length → ∃ (p : Addr) (r : List Int), TT.getD g [] = r ∧ ts[g]? = some p ∧ H2 p = some (.lst (r.map V.int)) ∧ r.length ≤ 20 := fun {H2 g} S hg => by
      have e := List.getElem?_eq_getElem hg
      obtain ⟨p, h1, h2⟩ := (hL.mono S).2 g _ e
      exact ⟨p, _, by rw [List.getD_eq_getElem?_getD, e]; rfl, h1, h2, hrl _ (List.getElem_mem hg)⟩
    obtain ⟨p, r, hr1, hp, hpr, hr20⟩ := row S1 hct
    refine ⟨_, rfl, _, rfl, tb, _, _, .ref p, rfl, rfl, SqL.of (S1 _ _ htb), atI_nat (by rw [List.getElem?_map, hp]; rfl), ?_⟩
    have hml2 : (mates TT M c).length = r.length := by unfold mates; rw [hr1, List.length_map]
    refine ⟨p, rfl, ⟨_, SqL.of hpr⟩, fun D2 hD2 => lc_map (a := p) (xs := r.map V.int) ((mates TT M c).map nV) (SqL.of hpr) hD2 (by rw [List.length_map, List.length_map, hml2]) (by rw [List.length_map]; omega) (fun j x y H2 Q2 hx hy S2 q2 => ?_) (fun H2 S2 h2 => ?_)⟩
    · obtain ⟨x, hx', rfl⟩ := map_of hx
      have hxm : x ∈ TT.getD c [] := by rw [hr1]; exact mem_get hx'
      have ey : y = nV ((near TT M c x).headD 0) := by
        unfold mates at hy
        rw [List.getElem?_map, List.getElem?_map, hr1, hx'] at hy
        exact (Option.some.inj hy).symm
      have S12 := S1.trans S2
      refine ⟨rfl, _, rfl, D, rfl, ⟨_, SqL.of (S2 _ _ h1)⟩, fun D3 hD3 => lc_sel (a := D) (xs := O.map nV) (fun i : Nat => (O[i]?).bind fun o => if decide (x ∈ TT.getD o []) = true then some (nV o) else none) (SqL.of (S2 _ _ h1)) hD3 (by rw [List.length_map]; have := hOs.length_le; omega) ?_ ?_⟩
      · rintro i z H3 Q3 hz S3 q
        obtain ⟨g, hg, rfl⟩ := nmap_of hz
        obtain ⟨po, ro, hro, hpo, hpro, _⟩ := row (S12.trans S3) (hin g (hOs.subset (mem_get hg)))
        refine ⟨rfl, _, rfl, _, rfl, _, rfl, tb, _, _, .ref po, rfl, rfl, SqL.of (S3 _ _ (S12 _ _ htb)), atI_nat (by rw [List.getElem?_map, hpo]; rfl), po, _, rfl, .inl (SqL.of hpro), rfl, flat_ints _, _, rfl, ?_⟩
        have q5 := q H3 (Same.refl H3)
        rw [hg] at q5
        have q5 : Q3 (if decide (x ∈ TT.getD g []) = true then some (nV g) else none) H3 := q5
        rw [hro] at q5
        show if inV (V.int x) (ro.map V.int) = true then _ else _
        rw [inV_int]
        by_cases e : x ∈ ro
        · rw [decide_eq_true e] at q5 ⊢
          exact iteT ⟨_, rfl, q5⟩
        · rw [decide_eq_false e] at q5 ⊢
          exact iteF q5
      · rintro H3 S3 h3
        rw [List.length_map, sel_filter O (fun o => decide (x ∈ TT.getD o [])) nV _ (Nat.le_refl _), List.take_length, ← hnear x, nV_ints] at h3
        have hne2 := hne x hxm
        refine ⟨D3, _, rfl, SqL.of h3, by rw [List.length_map]; exact List.length_pos_iff.mpr hne2, fun m hm hle => ?_⟩
        obtain ⟨n, hn, rfl⟩ := List.mem_map.mp hm
        have hh := head_least (hpw.sublist List.filter_sublist) hn (fun y hy => by have := hle (y : Int) (List.mem_map.mpr ⟨y, hy, rfl⟩); omega)
        have hh : (near TT M c x).headD 0 = n := hh
        rw [ey, hh] at q2
        exact q2 H3 S3
    · exact ⟨D2, _, rfl, .inl ⟨SqL.of h2, fun q hq => k q _ (S1.free (S2.free hq)) ((S1.trans S2).trans (same_new hq)) upd_same⟩⟩
end
end RS
namespace RS
open PySem L2
/-! ### lists of ints as data -/
theorem ints_dp {K : PySem.W.Frag} {H : Hp} : ∀ ns : List Int, DpAll K H (ns.map V.int) (ns.map PyData.int)
  | [] => .nil
  | n :: r => .cons (.int n) (ints_dp r)
theorem list_dp {K : PySem.W.Frag} {H : Hp} {a : Addr} {ns : List Int} (h : SqL K H a (ns.map V.int)) : Dp K H (.ref a) (.list (ns.map PyData.int)) := .lst h (ints_dp ns)
theorem list_eqv (ns ms : List Int) : PyData.eqv (.list (ns.map PyData.int)) (.list (ms.map PyData.int)) = decide (ns = ms) := PySem.W.ked_eqvAll ns ms
end RS
namespace RS
open PySem L2
section
variable {P : Program} {w : World} {K : PySem.W.Frag} {mg : Str → Option Value} {base : Heap}
/-! ### the checks -/
def spCkR (C : Addr) : Sp := fun vs H Q _ => ∃ (p g t o : Addr) (gs : List Int) (m : Nat), vs = [.ref p] ∧ RuleAt C H p g t o gs (.rep m) ∧ Q .non H
theorem scCkR : FnScope ["rule"] ["rule"] (defScope s_check_repeating) := ⟨rfl, rfl, rfl, by decide +kernel, rfl, by decide +kernel, by decide +kernel⟩
theorem ok_ckR {f C fR : Addr} {fd fdR : FuncData} (F : Fun K "_check_repeating" "_check_repeating" s_check_repeating f fd) (T : Txt K mg C) (GR : FnOk P w K mg base CX0 1 fR fdR ["self"] (spFR C)) (bR : Binds K fdR ["self"] []) (mR : Meth K C "first_repeating" fR) : FnOk P w K mg base CX0 2 f fd ["rule"] (spCkR C) := by
  refine F.ok scCkR (fun vs H Q E h => ?_) (fun cdv A outer s H vs Q E hr h => ?_)
  · obtain ⟨p, g, t, o, gs, m, rfl, _⟩ := h
    rfl
  · obtain ⟨p, g, t, o, gs, m, rfl, R, k⟩ := h
    refine ⟨_, (pss_one (ps_if (pt_cmpR op_isN (pe_meth0 (pv 0) T.cl mR GR hr bR .nil pass0) pe_non (nomark _)) (pss_one ps_never) pss_nil)), ?_⟩
    obtain ⟨dx, hob⟩ := R.ob
    exact ⟨_, rfl, p, dx, _, rfl, hob, flds_no _ _ _ (by decide +kernel) (by decide +kernel) (by decide +kernel), p, g, t, o, gs, m, rfl, R, rfl, _, rfl, iteFb (decide_eq_false fun e => nomatch e) k⟩
def spCkL (C : Addr) : Sp := fun vs H Q _ => ∃ (p g t o b : Addr) (gs : List Int) (m : Nat) (bs : List Int), vs = [.ref p, .ref b] ∧ RuleAt C H p g t o gs (.rep m) ∧ H b = some (.lst (bs.map V.int)) ∧ 1 ≤ bs.length ∧ bs.length ≤ 40 ∧ ∀ H', Same H H' → Q .non H'
theorem scCkL : FnScope ["rule", "starts"] ["rule", "starts"] (defScope s_check_clients) := ⟨rfl, rfl, rfl, by decide +kernel, rfl, by decide +kernel, by decide +kernel⟩
theorem ok_ckL {f C fR fS : Addr} {fd fdR fdS : FuncData} (F : Fun K "_check_clients" "_check_clients" s_check_clients f fd) (T : Txt K mg C) (GR : FnOk P w K mg base CX0 2 fR fdR ["rule"] (spCkR C)) (bR : Binds K fdR ["rule"] []) (mR : mg "_check_repeating" = some (.ref fR)) (kR : PySem.W.keepIn K (.ref fR) = true)
    (GS : FnOk P w K mg base CX0 2 fS fdS ["value", "fewest"] spChS) (bS : Binds K fdS ["value", "fewest"] []) (mS : mg "check_starts" = some (.ref fS)) (kS : PySem.W.keepIn K (.ref fS) = true) : FnOk P w K mg base CX0 3 f fd ["rule", "starts"] (spCkL C) := by
  refine F.ok scCkL (fun vs H Q E h => ?_) (fun cdv A outer s H vs Q E hr h => ?_)
  · obtain ⟨p, g, t, o, b, gs, m, bs, rfl, _⟩ := h
    rfl
  · obtain ⟨p, g, t, o, b, gs, m, bs, rfl, R, hb, h1, h40, k⟩ := h
    refine ⟨_, (pss_cons (ps_expr (pe_call GR hr rfl mR kR bR .nil pass0 (pa_cons (pv 0) pa_nil))) (pss_one (ps_expr (pe_call GS hr rfl mS kS bS .nil pass0 (pa_cons (pv 1) (pa_cons pe_int pa_nil)))))), ?_⟩
    exact ⟨_, rfl, p, g, t, o, gs, m, rfl, R, _, rfl, b, bs, 1, rfl, hb, h1, h40, fun H' S => k H' S⟩
/-! ### _are_ascending: a list of clients that ascends -/
def spAsc : Sp := fun vs H Q _ => ∃ (b : Addr) (M : List Nat) (n : Nat), vs = [.ref b, .int (n : Int)] ∧ H b = some (.lst (M.map nV)) ∧ M.Pairwise (· < ·) ∧ (∀ x ∈ M, x < n) ∧ M.length ≤ 40 ∧ ∀ H', Same H H' → Q (.bl true) H'
theorem scAsc : FnScope ["value", "many", "client"] ["value", "many"] (defScope s_are_ascending) := ⟨rfl, rfl, rfl, by decide +kernel, rfl, by decide +kernel, by decide +kernel⟩
theorem asc_eq {ns : List Int} {M : List Nat} (h1 : ns.Pairwise (· < ·)) (h2 : M.Pairwise (· < ·)) (h : ∀ k : Int, k ∈ ns ↔ k ∈ M.map fun n : Nat => (n : Int)) : ns = M.map fun n : Nat => (n : Int) := by
  have h3 : (M.map fun n : Nat => (n : Int)).Pairwise (· < ·) := by
    rw [List.pairwise_map]
    exact h2.imp fun h => by omega
  exact List.Perm.eq_of_pairwise (le := fun a b : Int => a < b) (fun a b _ _ h h' => by omega) h1 h3 ((List.perm_ext_iff_of_nodup (h1.imp fun h => by omega) (h3.imp fun h => by omega)).mpr h)
theorem ok_asc {f C fI : Addr} {fd fdI : FuncData} (F : Fun K "_are_ascending" "_are_ascending" s_are_ascending f fd) (T : Txt K mg C) (GI : FnOk P w K mg base CX0 1 fI fdI ["value"] spIsInt) (bI : Binds K fdI ["value"] []) (mI : mg "is_integer" = some (.ref fI)) (kI : PySem.W.keepIn K (.ref fI) = true) : FnOk P w K mg base CX0 2 f fd ["value", "many"] spAsc := by
  refine F.ok scAsc (fun vs H Q E h => ?_) (fun cdv A outer s H vs Q E hr h => ?_)
  · obtain ⟨b, M, n, rfl, _⟩ := h
    rfl
  · obtain ⟨b, M, n, rfl, hb, hpw, hin, hl, k⟩ := h
    refine ⟨_, (pss_cons (ps_if (pt_not (pt_val (pe_callB call_isi (by rfl) T.isi (by decide +kernel) (pa_cons (pv 0) (pa_cons (pe_bltn (v := .ty "list") (by rfl) T.list (by decide +kernel) rfl) pa_nil))))) (pss_one (ps_ret pe_bl)) pss_nil) (pss_cons (ps_if (pt_not (pt_val (pe_callB (cr_all rfl) (by rfl) T.all (by decide +kernel) (pa_cons (pe_lc (own := [("client", 2)]) (g := gName 2) (tt := tYes) rfl scAsc.nd (pi_list (pv 0)) (blkOk_by (own := [("client", 2)]) (N := (["value", "many", "client"])) (sc := (defScope s_are_ascending)) (by decide +kernel)) (fun _ _ _ _ _ => (pg_name (i := 2) scAsc.nd rfl (Or.inl rfl))) (fun _ _ _ _ _ => pts_nil) (fun _ _ _ _ _ => (pe_and (pe_call GI hr rfl mI kI bI .nil pass0 (pa_cons (pv 2) pa_nil)) (pe_one (pe_chain op_le op_lt pe_int (pv 2) (pv 1)))))) pa_nil)))) (pss_one (ps_ret pe_bl)) pss_nil) (pss_one (ps_ret (pe_cmpR (op_eqD hr.units) (pv 0) (pe_callB (cr_sortedSet rfl) (by rfl) T.sorted (by decide +kernel) (pa_cons (pe_callTy (cr_setL rfl) (by rfl) T.set (by decide +kernel) (pa_cons (pv 0) pa_nil)) pa_nil)) (nomark _)))))), ?_⟩
    refine ⟨_, rfl, _, _, _, _, _, rfl, .ty _, .base (.lst hb), kit_ty (r := true) (by decide +kernel), true, rfl, iteF ?_⟩
    refine ⟨_, rfl, b, rfl, ⟨_, SqL.of hb⟩, fun D hD => lc_map (a := b) (xs := M.map nV) ((M.map fun _ => true).map V.bl) (SqL.of hb) hD (by simp) (by rw [List.length_map]; omega) (fun i x y H1 Q1 hx hy S1 q => ?_) (fun H1 S1 h1 => ?_)⟩
    · obtain ⟨g, hg, rfl⟩ := nmap_of hx
      have ey : y = .bl true := by
        rw [List.getElem?_map, List.getElem?_map, hg] at hy
        exact (Option.some.inj hy).symm
      have hgn := hin g (mem_get hg)
      refine ⟨rfl, _, rfl, _, rfl, true, rfl, iteT ?_⟩
      refine ⟨_, rfl, _, _, rfl, rfl, _, rfl, iteTb (decide_eq_true (by omega)) ?_⟩
      refine ⟨_, rfl, _, _, rfl, rfl, ?_⟩
      rw [ey] at q
      show Q1 (.bl (decide ((g : Int) < (n : Int)))) H1
      rw [decide_eq_true (by omega)]
      exact q H1 (Same.refl H1)
    refine ⟨D, _, rfl, SqL.of h1, _, rfl, iteFb (by simp) ?_⟩
    refine ⟨_, rfl, _, rfl, b, (M.map fun n : Nat => (n : Int)), rfl, SqL.of (by rw [S1 _ _ hb, nV_ints]), by rw [List.length_map]; omega, fun p c hp hc => ?_⟩
    rw [List.length_map] at hc
    refine ⟨p, _, _, rfl, upd_same, by omega, fun ns q h2 h3 h4 hq => ?_⟩
    have e : ns = M.map fun n : Nat => (n : Int) := asc_eq h2 hpw fun k => by rw [h3 k, decide_eq_true_iff]
    have S3 := S1.trans ((same_new hp).trans (same_new (o := .lst (ns.map V.int)) hq))
    refine ⟨_, _, list_dp (SqL.of (by rw [S3 _ _ hb, nV_ints])), list_dp (SqL.of upd_same), PySem.W.ke_shaped_ints _, PySem.W.ke_shaped_ints _, ?_⟩
    rw [list_eqv, e, decide_eq_true rfl]
    rw [e] at S3
    exact k _ S3
end
end RS
namespace RS
open PySem L2
/-! ### residues of one client differ -/
theorem resid_nodup {gs : List Int} {m : Nat} (okG : GapsOk gs) (h1 : 1 ≤ m) (h2 : m ≤ gs.length) (s : Int) : (resid gs m s).Nodup := by
  unfold resid repOffs
  rw [List.map_map]
  refine List.pairwise_map.mpr ((List.pairwise_lt_range (n := m)).imp_of_mem fun {i j} hi hj hij => ?_)
  have hi := List.mem_range.mp hi
  have hj := List.mem_range.mp hj
  show (s + pre gs (gs.length - m + i)) % per gs m ≠ (s + pre gs (gs.length - m + j)) % per gs m
  intro e
  have a := pre_mono okG (gs.length - m + i) (j - i) (by omega)
  rw [show gs.length - m + i + (j - i) = gs.length - m + j by omega] at a
  have b := pre_mono okG (gs.length - m) i (by omega)
  have c := pre_mono okG (gs.length - m + j) (m - j) (by omega)
  rw [show gs.length - m + j + (m - j) = gs.length by omega] at c
  have hp : per gs m = pre gs gs.length - pre gs (gs.length - m) := rfl
  have d := Int.emod_eq_emod_iff_emod_sub_eq_zero.mp e.symm
  rw [Int.emod_eq_of_lt (by omega) (by omega)] at d
  omega
theorem tab_get {gs : List Int} {m : Nat} {bs : List Int} {c : Nat} {r : List Int} (h : (bs.map (resid gs m))[c]? = some r) : ∃ s, bs[c]? = some s ∧ r = resid gs m s := by
  rw [List.getElem?_map] at h
  cases e : bs[c]? with
  | none => rw [e] at h; cases h
  | some s => rw [e] at h; exact ⟨s, rfl, (Option.some.inj h).symm⟩
theorem near_ne {T : List (List Int)} {ks : List Nat} {c : Nat} {r : Int} (hn : ks.Nodup) (hc : c ∈ ks) (hf : fits T ks c = true) (hd : (T.getD c []).Nodup) (hr : r ∈ T.getD c []) : near T ks c r ≠ [] := by
  have h1 := of_decide_eq_true (List.all_eq_true.mp hf r hr)
  have e := ((List.perm_cons_erase hc).map fun c => (T.getD c []).count r).sum_nat
  rw [List.map_cons, List.sum_cons, hd.count, if_pos hr] at e
  have h1 : 1 < (ks.map fun c => (T.getD c []).count r).sum := h1
  intro z
  have h0 : ((ks.erase c).map fun c => (T.getD c []).count r).sum = 0 := by
    refine List.sum_eq_zero_iff_forall_eq_nat.mpr fun x hx => ?_
    obtain ⟨o, ho, rfl⟩ := List.mem_map.mp hx
    refine List.count_eq_zero.mpr fun hm => ?_
    have hoc : o ≠ c := fun q => by
      rw [q] at ho
      exact (List.Nodup.mem_erase_iff hn).mp ho |>.1 rfl
    have : o ∈ near T ks c r := List.mem_filter.mpr ⟨List.mem_of_mem_erase ho, by rw [decide_eq_true hoc, decide_eq_true hm]; rfl⟩
    rw [z] at this
    cases this
  omega
/-! ### lists of pairs of an int and a tuple of ints -/
inductive PrT (H : Hp) : List V → List (Nat × List Nat) → Prop
  | nil : PrT H [] []
  | cons {t pt : Addr} {c : Nat} {ms : List Nat} {rs : List V} {ds : List (Nat × List Nat)} : H t = some (.tup [.int (c : Int), .ref pt]) → H pt = some (.tup (ms.map nV)) → PrT H rs ds → PrT H (.ref t :: rs) ((c, ms) :: ds)
theorem PrT.mono {H H' : Hp} {rs : List V} {ds : List (Nat × List Nat)} (h : PrT H rs ds) (S : Same H H') : PrT H' rs ds := by
  induction h with
  | nil => exact .nil
  | cons a b _ ih => exact .cons (S _ _ a) (S _ _ b) ih
theorem PrT.off {H : Hp} {rs : List V} {ds : List (Nat × List Nat)} {D : Addr} {xs : List V} {o : HO} (h : PrT H rs ds) (hD : H D = some (.lst xs)) : PrT (upd H D o) rs ds := by
  induction h with
  | nil => exact .nil
  | cons a b _ ih => exact .cons (by rw [upd_ne (ne_of a hD (by intro z; cases z))]; exact a) (by rw [upd_ne (ne_of b hD (by intro z; cases z))]; exact b) ih
theorem PrT.snoc {H : Hp} {rs : List V} {ds : List (Nat × List Nat)} {t pt : Addr} {c : Nat} {ms : List Nat} (h : PrT H rs ds) (a : H t = some (.tup [.int (c : Int), .ref pt])) (b : H pt = some (.tup (ms.map nV))) : PrT H (rs ++ [.ref t]) (ds ++ [(c, ms)]) := by
  induction h with
  | nil => exact .cons a b .nil
  | cons a' b' _ ih => exact .cons a' b' ih
theorem PrT.len {H : Hp} {rs : List V} {ds : List (Nat × List Nat)} (h : PrT H rs ds) : rs.length = ds.length := by
  induction h with
  | nil => rfl
  | cons _ _ _ ih => simp [ih]
def prD (d : Nat × List Nat) : PyData := .tuple [.int (d.1 : Int), .tuple ((d.2.map fun n : Nat => (n : Int)).map PyData.int)]
theorem PrT.dp {K : PySem.W.Frag} {H : Hp} {rs : List V} {ds : List (Nat × List Nat)} (h : PrT H rs ds) : DpAll K H rs (ds.map prD) := by
  induction h with
  | nil => exact .nil
  | cons a b _ ih =>
    refine .cons (.tup (SqT.of a) (.cons (.int _) (.cons (.tup (SqT.of b) ?_) .nil))) ih
    rw [nV_ints]
    exact ints_dp _
theorem int_can : ∀ ns : List Int, PyData.canLayAll0 (ns.map PyData.int) = true
  | [] => rfl
  | n :: r => by
    show (PyData.canLay0 _ && PyData.canLayAll0 (r.map PyData.int)) = true
    rw [int_can r]
    rfl
theorem int_depth : ∀ ns : List Int, PyData.depthAll (ns.map PyData.int) = 0
  | [] => rfl
  | n :: r => by
    show max 0 (PyData.depthAll (r.map PyData.int)) = 0
    rw [int_depth r]
    rfl
theorem prD_can : ∀ ds : List (Nat × List Nat), PyData.canLayAll0 (ds.map prD) = true
  | [] => rfl
  | d :: r => by
    show (PyData.canLay0 (prD d) && PyData.canLayAll0 (r.map prD)) = true
    rw [prD_can r, Bool.and_true]
    show (true && (PyData.canLayAll0 ((d.2.map fun n : Nat => (n : Int)).map PyData.int) && true)) = true
    rw [int_can]
    rfl
theorem prD_depth : ∀ ds : List (Nat × List Nat), PyData.depthAll (ds.map prD) ≤ 2
  | [] => by decide
  | d :: r => by
    have ih := prD_depth r
    have e := int_depth (d.2.map fun n : Nat => (n : Int))
    show max (max 0 (max (PyData.depthAll ((d.2.map fun n : Nat => (n : Int)).map PyData.int) + 1) 0) + 1) (PyData.depthAll (r.map prD)) ≤ 2
    omega
theorem prD_shaped (ds : List (Nat × List Nat)) : SeqAt.shaped (.list (ds.map prD)) = true := by
  show (PyData.canLayAll0 (ds.map prD) && decide (PyData.depthAll (ds.map prD) + 1 ≤ 64)) = true
  rw [prD_can, decide_eq_true (by have := prD_depth ds; omega)]
  rfl
theorem prD_refl : ∀ ds : List (Nat × List Nat), PyData.eqvAll (ds.map prD) (ds.map prD) = true
  | [] => rfl
  | d :: r => by
    have e : PyData.eqvAll ((d.2.map fun n : Nat => (n : Int)).map PyData.int) ((d.2.map fun n : Nat => (n : Int)).map PyData.int) = true := by rw [PySem.W.ked_eqvAll, decide_eq_true rfl]
    have ih := prD_refl r
    simp [prD, PyData.eqvAll, PyData.eqv, ih] at e ⊢
    exact e
section
variable {P : Program} {w : World} {K : PySem.W.Frag} {mg : Str → Option Value} {base : Heap}
/-- the greatest closed set, by its properties -/
structure Great (T : List (List Int)) (n : Nat) (ks : List Nat) : Prop where
  pw : ks.Pairwise (· < ·)
  lt : ∀ x ∈ ks, x < n
  cl : ClosedS T ks
  all : ∀ M, ClosedS T M → M.Nodup → (∀ x ∈ M, x < n) → ∀ x ∈ M, x ∈ ks
theorem great_of {T : List (List Int)} {n : Nat} {ks : List Nat} (h : Left T (List.range n) ks) (e : stepC T ks = ks) : Great T n ks :=
  ⟨List.pairwise_lt_range.sublist h.sub, fun x hx => List.mem_range.mp (h.sub.subset hx), step_closed e, fun M hc hn hl => h.all M hc hn fun x hx => List.mem_range.mpr (hl x hx)⟩
def tabOf (gs : List Int) (m : Nat) (bs : List Int) : List (List Int) := bs.map (resid gs m)
theorem tab_rows {gs : List Int} {m : Nat} {bs : List Int} (h : m ≤ 20) : ∀ r ∈ tabOf gs m bs, r.length ≤ 20 := fun r hr => by
  obtain ⟨s, _, rfl⟩ := List.mem_map.mp hr
  rw [resid_len]
  exact h
def blkOf (T : List (List Int)) (ks : List Nat) : List (Nat × List Nat) := ks.map fun c => (c, mates T ks c)
def spBlk (K : PySem.W.Frag) (C : Addr) : Sp := fun vs H Q _ => ∃ (p g t o b : Addr) (gs : List Int) (m : Nat) (bs : List Int), vs = [.ref p, .ref b] ∧ RuleAt C H p g t o gs (.rep m) ∧ H b = some (.lst (bs.map V.int)) ∧ 1 ≤ bs.length ∧ bs.length ≤ 40 ∧
  ∀ ks q rs H', H q = none → Same H H' → Great (tabOf gs m bs) bs.length ks → H' q = some (.lst rs) → PrT H' rs (blkOf (tabOf gs m bs) ks) → Q (.ref q) H'
def blN : List Str := ["rule", "starts", "table", "clients", "client"]
theorem scBlk : FnScope blN ["rule", "starts"] (defScope s_blocked_clients) := ⟨rfl, rfl, rfl, by decide +kernel, rfl, by decide +kernel, by decide +kernel⟩
theorem ok_blk {f C fC fT fG fP : Addr} {fd fdC fdT fdG fdP : FuncData} (F : Fun K "blocked_clients" "blocked_clients" s_blocked_clients f fd) (T : Txt K mg C) (GC : FnOk P w K mg base CX0 3 fC fdC ["rule", "starts"] (spCkL C)) (bC : Binds K fdC ["rule", "starts"] []) (mC : mg "_check_clients" = some (.ref fC)) (kC : PySem.W.keepIn K (.ref fC) = true)
    (GT : FnOk P w K mg base CX0 5 fT fdT ["rule", "starts"] (spTab C)) (bT : Binds K fdT ["rule", "starts"] []) (mT : mg "_residue_table" = some (.ref fT)) (kT : PySem.W.keepIn K (.ref fT) = true)
    (GG : FnOk P w K mg base CX0 1 fG fdG ["table", "clients"] spGC) (bG : Binds K fdG ["table", "clients"] []) (mG : mg "_greatest_closed" = some (.ref fG)) (kG : PySem.W.keepIn K (.ref fG) = true)
    (GP : FnOk P w K mg base CX0 1 fP fdP ["table", "client", "clients"] spPart) (bP : Binds K fdP ["table", "client", "clients"] []) (mP : mg "_partners" = some (.ref fP)) (kP : PySem.W.keepIn K (.ref fP) = true) :
    FnOk P w K mg base CX0 6 f fd ["rule", "starts"] (spBlk K C) := by
  refine F.ok scBlk (fun vs H Q E h => ?_) (fun cdv A outer s H vs Q E hr h => ?_)
  · obtain ⟨p, g, t, o, b, gs, m, bs, rfl, _⟩ := h
    rfl
  · obtain ⟨p, g, t, o, b, gs, m, bs, rfl, R, hb, h1, h40, k⟩ := h
    have hr1 := hr.mono (show 1 ≤ 5 by decide)
    have hm1 : 1 ≤ m := R.okT.1
    have hm2 : m ≤ gs.length := R.okT.2
    have hg20 := R.okG.1
    refine ⟨_, (pss_cons (ps_expr (pe_call GC (hr.mono (by decide)) rfl mC kC bC .nil pass0 (pa_cons (pv 0) (pa_cons (pv 1) pa_nil)))) (pss_cons (ps_set (i := 2) scBlk.nd rfl (Or.inr rfl) (pe_call GT hr rfl mT kT bT .nil pass0 (pa_cons (pv 0) (pa_cons (pv 1) pa_nil)))) (pss_cons (ps_set (i := 3) scBlk.nd rfl (Or.inr rfl) (pe_call GG hr1 rfl mG kG bG .nil pass0 (pa_cons (pv 2) (pa_cons (pe_listRg rfl (by rfl) T.list (prg_1 (by rfl) T.range (pe_callB call_len_seq (by rfl) T.len (by decide +kernel) (pa_cons (pv 1) pa_nil)))) pa_nil)))) (pss_one (ps_ret (pe_lc (own := [("client", 4)]) (g := gName 4) (tt := tYes) rfl scBlk.nd (pi_list (pv 3)) (blkOk_by (own := [("client", 4)]) (N := blN) (sc := (defScope s_blocked_clients)) (by decide +kernel)) (fun _ _ _ _ _ => (pg_name (i := 4) scBlk.nd rfl (Or.inl rfl))) (fun _ _ _ _ _ => pts_nil) (fun _ _ _ _ _ => (pe_tup (pa_cons (pv 4) (pa_cons (pe_call GP hr1 rfl mP kP bP .nil pass0 (pa_cons (pv 2) (pa_cons (pv 4) (pa_cons (pv 3) pa_nil)))) pa_nil)))))))))), ?_⟩
    refine ⟨_, rfl, _, rfl, p, g, t, o, b, gs, m, bs, rfl, R, hb, h1, h40, fun H1 S1 => ?_⟩
    refine ⟨_, rfl, _, rfl, p, g, t, o, b, gs, m, bs, rfl, R.mono S1, S1 _ _ hb, by omega, fun tb ts H2 htb S2 htb2 hL => ?_⟩
    have S12 := S1.trans S2
    have hb2 := S12 _ _ hb
    refine ⟨_, rfl, _, rfl, b, _, rfl, .inl (SqL.of hb2), _, rfl, ?_⟩
    refine ⟨RgOk.of_le (by omega) (by rw [List.length_map]; omega) (by omega) (by omega), fun l hl => ?_⟩
    have S3 := same_new (o := .lst (rgV 0 ((bs.map V.int).length : Int))) hl
    have er : rgV 0 ((bs.map V.int).length : Int) = (List.range bs.length).map nV := by
      unfold rgV
      rw [List.length_map, Int.sub_zero, Int.toNat_natCast]
      refine List.map_congr_left fun i _ => ?_
      show V.int (0 + (i : Int)) = V.int (i : Int)
      rw [Int.zero_add]
    have hl3 := upd_same (H := H2) (a := l) (o := .lst (rgV 0 ((bs.map V.int).length : Int)))
    rw [er] at hl3 S3 ⊢
    have hTl : (tabOf gs m bs).length = bs.length := by unfold tabOf; rw [List.length_map]
    refine ⟨tb, l, ts, tabOf gs m bs, List.range bs.length, rfl, S3 _ _ htb2, LsAt.mono hL S3, hl3, fun x hx => by rw [hTl]; exact List.mem_range.mp hx, by rw [List.length_range]; exact h40, tab_rows (by omega), fun ks q H4 hq S4 hleft hst hq4 => ?_⟩
    have G := great_of hleft hst
    have S34 := S3.trans S4
    have S14 := S12.trans S34
    have hkl : ks.length ≤ 40 := by have := hleft.sub.length_le; rw [List.length_range] at this; omega
    refine ⟨_, rfl, q, rfl, ⟨_, SqL.of hq4⟩, fun D hD => lc_list (a := q) (xs := ks.map nV) (fun i H' => Same H4 H' ∧ ∃ rs, H' D = some (.lst rs) ∧ PrT H' rs ((blkOf (tabOf gs m bs) ks).take i)) ⟨same_app hD (fun _ _ e => e), [], upd_same, .nil⟩ (fun i H' _ z => z.1.seq (SqL.of hq4)) (fun i x H5 hx z => ?_) (fun H5 z => ?_)⟩
    · obtain ⟨S5, rs, hrs, hP⟩ := z
      obtain ⟨c, hc, rfl⟩ := nmap_of hx
      have hcm := mem_get hc
      have hct : c < (tabOf gs m bs).length := by rw [hTl]; exact G.lt c hcm
      have S45 := S34.trans S5
      have eT := List.getElem?_eq_getElem hct
      obtain ⟨s0, _, es⟩ := tab_get (gs := gs) (m := m) (bs := bs) eT
      have hrow : ((tabOf gs m bs).getD c []).Nodup := by
        rw [List.getD_eq_getElem?_getD, eT]
        show ((tabOf gs m bs)[c]).Nodup
        rw [es]
        exact resid_nodup R.okG hm1 hm2 s0
      have hnd : ks.Nodup := G.pw.imp fun h => by omega
      refine ⟨rfl, yes_t (iteT ?_)⟩
      refine ⟨_, rfl, _, rfl, _, rfl, _, rfl, tb, q, ts, tabOf gs m bs, ks, c, rfl, S45 _ _ htb2, LsAt.mono hL S45, S5 _ _ hq4, fun x hx => by rw [hTl]; exact G.lt x hx, hct, G.pw, hkl, tab_rows (by omega), fun r hr => near_ne hnd hcm (G.cl c hcm) hrow hr, fun pt H6 hpt S6 hpt6 => ?_⟩
      refine ⟨by show 2 ≤ sizeLine; decide, fun t2 ht2 => ?_⟩
      have S7 := S6.trans (same_new (o := .tup [V.int (c : Int), .ref pt]) ht2)
      have hD7 := S7 _ _ hrs
      have hlen := hP.len
      refine ⟨rs, hD7, small_line (by rw [hlen, List.length_take]; unfold blkOf; rw [List.length_map]; omega), same_app hD (S5.trans S7), _, upd_same, ?_⟩
      have hgi : (blkOf (tabOf gs m bs) ks)[i]? = some (c, mates (tabOf gs m bs) ks c) := by
        unfold blkOf
        rw [List.getElem?_map, hc]
        rfl
      rw [List.take_add_one, hgi]
      exact ((hP.mono S7).snoc upd_same (same_new ht2 _ _ hpt6)).off hD7
    · obtain ⟨S5, rs, hrs, hP⟩ := z
      rw [List.length_map, show ks.length = (blkOf (tabOf gs m bs) ks).length by unfold blkOf; rw [List.length_map], List.take_length] at hP
      exact k ks D rs H5 (S14.free hD) (S14.trans S5) G hrs hP
end
end RS
namespace RS
open PySem L2
/-! ### slices -/
theorem cut_to (xs : List V) (n : Nat) : cutV xs none (some (n : Int)) = xs.take n := by
  unfold cutV
  rw [HT.sIx_none, HT.sIx_nat, List.drop_zero, Nat.sub_zero]
  by_cases h : n ≤ xs.length
  · rw [Nat.min_eq_left h]
  · rw [Nat.min_eq_right (by omega), List.take_length, List.take_of_length_le (by omega)]
theorem cut_mid (xs : List V) (i n : Nat) : cutV xs (some (i : Int)) (some (n : Int)) = (xs.drop i).take (n - i) := by
  unfold cutV
  rw [HT.sIx_nat, HT.sIx_nat]
  by_cases h : i ≤ xs.length
  · rw [Nat.min_eq_left h]
    by_cases h2 : n ≤ xs.length
    · rw [Nat.min_eq_left h2]
    · rw [Nat.min_eq_right (by omega), List.take_of_length_le (by rw [List.length_drop]; exact Nat.le_refl _), List.take_of_length_le (by rw [List.length_drop]; omega)]
  · rw [show min i xs.length = xs.length by omega, List.drop_of_length_le (Nat.le_refl _), List.drop_of_length_le (show xs.length ≤ i by omega)]
    simp
theorem cut_back (xs : List V) {m : Nat} (h0 : 0 < m) (h : m ≤ xs.length) : cutV xs (some (-(m : Int))) none = xs.drop (xs.length - m) := by
  have e : HT.sIx xs.length 0 (some (-(m : Int))) = xs.length - m := by
    show (if -(m : Int) < 0 then (-(m : Int) + (xs.length : Int)).toNat else min (-(m : Int)).toNat xs.length) = _
    rw [if_pos (by omega)]
    omega
  unfold cutV
  rw [e, HT.sIx_none, List.take_of_length_le (by rw [List.length_drop]; exact Nat.le_refl _)]
theorem cut_from (xs : List V) {i : Nat} (h : i ≤ xs.length) : cutV xs (some (i : Int)) none = xs.drop i := by
  unfold cutV
  rw [HT.sIx_nat, HT.sIx_none, Nat.min_eq_left h, List.take_of_length_le (by rw [List.length_drop]; exact Nat.le_refl _)]
end RS
namespace RS
open PySem L2
section
variable {P : Program} {w : World} {K : PySem.W.Frag} {mg : Str → Option Value} {base : Heap}
/-! ### the law's rule that repeats -/
def spRep : Sp := fun vs H Q _ => ∃ (a : Addr) (b : Nat), vs = [.ref a] ∧ Src H a b ∧ b ≤ 50000 ∧
  ∀ (u g : Addr) (gs : List Int) (m : Nat) (H' : Hp), H g = none → H' u = some (.tup [.ref g, .int (m : Int)]) → H' g = some (.lst (gs.map V.int)) → GapsOk gs → 1 ≤ m → m ≤ gs.length → Kx a H H' → Src H' a (b + 30) → Q (.ref u) H'
def reN : List Str := ["_law_source", "_law_most", "_law_gaps", "_law_gap"]
theorem scRep : FnScope reN ["_law_source"] (defScope s_law_repeating) := ⟨rfl, rfl, rfl, by decide +kernel, rfl, by decide +kernel, by decide +kernel⟩
theorem ok_rep {f C fN fO : Addr} {fd fdN fdO : FuncData} (F : Fun K "_law_repeating" "_law_repeating" s_law_repeating f fd) (T : Txt K mg C) (GN : FnOk P w K mg base CX0 1 fN fdN ["_law_source", "_law_bound"] spNext) (bN : Binds K fdN ["_law_source", "_law_bound"] []) (mN : mg "_law_draw" = some (.ref fN)) (kN : PySem.W.keepIn K (.ref fN) = true)
    (GO : FnOk P w K mg base CX0 2 fO fdO ["_law_source", "_law_options"] spOne) (bO : Binds K fdO ["_law_source", "_law_options"] []) (mO : mg "_law_choice" = some (.ref fO)) (kO : PySem.W.keepIn K (.ref fO) = true) : FnOk P w K mg base CX0 3 f fd ["_law_source"] spRep := by
  refine F.ok scRep (fun vs H Q E h => ?_) (fun cdv A outer s H vs Q E hr h => ?_)
  · obtain ⟨a, b, rfl, _⟩ := h
    rfl
  · obtain ⟨a, b, rfl, S, hb, k⟩ := h
    have hr1 := hr.mono (show 1 ≤ 2 by decide)
    refine ⟨_, (pss_cons (ps_set (i := 1) scRep.nd rfl (Or.inr rfl) (pe_call GO hr rfl mO kO bO .nil pass0 (pa_cons (pv 0) (pa_cons (pe_lst (pa_cons pe_int (pa_cons pe_int (pa_cons pe_int (pa_cons pe_int (pa_cons (pe_op op_pow pe_int pe_int) pa_nil)))))) pa_nil)))) (pss_cons (ps_setLc (i := 2) (own := [("_law_gap", 3)]) (g := gName 3) (tt := tYes) (by rfl) scRep.nd rfl rfl (sw_true rfl rfl rfl (by decide +kernel)) (pi_range1 rfl T.range (pa_cons (pe_op op_add pe_int (pe_call GN hr1 rfl mN kN bN .nil pass0 (pa_cons (pv 0) (pa_cons (pe_call GO hr rfl mO kO bO .nil pass0 (pa_cons (pv 0) (pa_cons (pe_lst (pa_cons pe_int (pa_cons pe_int (pa_cons pe_int pa_nil)))) pa_nil))) pa_nil)))) pa_nil)) (blkOk_by (own := [("_law_gap", 3)]) (N := reN) (sc := (defScope s_law_repeating)) (by decide +kernel)) (fun _ _ _ _ _ => (pg_name (i := 3) scRep.nd rfl (Or.inl rfl))) (fun _ _ _ _ _ => pts_nil) (fun _ _ _ _ _ => (pe_op op_add pe_int (pe_call GN hr1 rfl mN kN bN .nil pass0 (pa_cons (pv 0) (pa_cons (pv 1) pa_nil)))))) (pss_one (ps_ret (pe_tup (pa_cons (pv 2) (pa_cons (pe_op op_add pe_int (pe_call GN hr1 rfl mN kN bN .nil pass0 (pa_cons (pv 0) (pa_cons (pe_callB call_len_seq (by rfl) T.len (by decide +kernel) (pa_cons (pv 2) pa_nil)) pa_nil)))) pa_nil))))))), ?_⟩
    -- most
    refine ⟨_, rfl, _, _, rfl, rfl, ⟨by decide, by decide, by decide⟩, (by show 5 ≤ sizeLine; decide), fun q1 hq1 => ?_⟩
    have S1 : Same H (upd H q1 (.lst [.int 2, .int 3, .int 6, .int 30, .int ((10 : Int) ^ (12 : Int).toNat)])) := same_new hq1
    refine ⟨a, q1, _, b, rfl, S.mono S1, by omega, (S.new hq1).symm, upd_same, by show 0 < 5; decide, by show 5 < 1000; decide, fun x H2 hx kx2 R2 => ?_⟩
    obtain ⟨wd, rfl, wd1, wd2⟩ : ∃ wd : Int, x = .int wd ∧ 1 ≤ wd ∧ wd ≤ 1000000000000 := by
      simp only [List.mem_cons, List.not_mem_nil, or_false] at hx
      rcases hx with rfl | rfl | rfl | rfl | rfl <;> exact ⟨_, rfl, by decide, by decide⟩
    have kx2 : Kx a H H2 := (Kx.of S1).trans kx2
    -- how many
    refine ⟨_, rfl, _, rfl, (by show 3 ≤ sizeLine; decide), fun q2 hq2 => ?_⟩
    refine ⟨a, q2, _, b + 1, rfl, R2.mono (same_new hq2), by omega, (R2.new hq2).symm, upd_same, by show 0 < 3; decide, by show 3 < 1000; decide, fun x H3 hx kx3 R3 => ?_⟩
    obtain ⟨ct, rfl, ct1, ct2⟩ : ∃ ct : Int, x = .int ct ∧ 1 ≤ ct ∧ ct ≤ 20 := by
      simp only [List.mem_cons, List.not_mem_nil, or_false] at hx
      rcases hx with rfl | rfl | rfl <;> exact ⟨_, rfl, by decide, by decide⟩
    have kx3 : Kx a H H3 := kx2.trans ((Kx.of (same_new hq2)).trans kx3)
    refine ⟨a, ct, b + 2, rfl, R3, by omega, ct1, by omega, fun cn H4 cn0 cn1 kx4 R4 => ?_⟩
    have kx4 : Kx a H H4 := kx3.trans kx4
    -- the gaps
    refine ⟨_, _, rfl, rfl, 1 + cn, rfl, by omega, by omega, fun D hD => ?_⟩
    have naD : a ≠ D := R4.new hD
    refine lc_range (lo := 0) (n := (1 + cn).toNat) (fun i H' => ∃ gs : List Int, gs.length = i ∧ (∀ g ∈ gs, 1 ≤ g ∧ g ≤ 1000000000000) ∧ H' D = some (.lst (gs.map V.int)) ∧ Kx a H4 H' ∧ Src H' a (b + 3 + i)) ⟨[], rfl, fun g hg => (nomatch hg), upd_same, Kx.of (same_new hD), R4.mono (same_new hD)⟩ (fun i H' hi p => ?_) (fun H' p => ?_)
    · obtain ⟨gs, hl, hg, hd, kx, R⟩ := p
      refine ⟨rfl, ?_⟩
      refine yes_t (iteT ?_)
      refine ⟨_, rfl, _, rfl, a, wd, b + 3 + i, rfl, R, by omega, wd1, by omega, fun r H5 r0 r1 kx5 R5 => ⟨_, _, rfl, rfl, gs.map V.int, kx5 D _ naD.symm hd, ?_, gs ++ [1 + r], ?_, ?_, ?_, ?_, ?_⟩⟩
      · rw [List.length_map]
        exact small1000 (by omega)
      · rw [List.length_append, hl]
        rfl
      · intro g hm
        rcases List.mem_append.mp hm with hm | hm
        · exact hg g hm
        · obtain rfl := List.mem_singleton.mp hm
          omega
      · rw [upd_same, List.map_append]
        rfl
      · intro c u n e
        rw [upd_ne (ne_of_none e hD)]
        exact kx5 c u n (kx c u n e)
      · obtain ⟨s0, s1, s2, h1, h2⟩ := R5.ex
        exact ⟨s0, s1, s2, by rw [upd_ne naD]; exact h1, h2⟩
    obtain ⟨gs, hl, hg, hd, kx, R⟩ := p
    have kx5 : Kx a H H' := kx4.trans kx
    have hDH : H D = none := kx4.free naD.symm hD
    have okG : GapsOk gs := ⟨by omega, hg⟩
    refine ⟨_, rfl, _, rfl, _, rfl, D, _, rfl, .inl (SqL.of hd), a, (gs.length : Int), b + 3 + (1 + cn).toNat, ?_, R, by omega, by omega, by omega, fun r H6 r0 r1 kx6 R6 => ?_⟩
    · rw [List.length_map]
      rfl
    refine ⟨_, _, rfl, rfl, (by show 2 ≤ sizeLine; decide), fun u hu => ?_⟩
    obtain ⟨n, rfl⟩ := Int.eq_ofNat_of_zero_le r0
    have hd6 := kx6 D _ naD.symm hd
    have Su := same_new (o := .tup [V.ref D, .int (1 + (n : Int))]) hu
    refine k u D gs (1 + n) _ hDH ?_ (Su _ _ hd6) okG (by omega) (by omega) ((kx5.trans kx6).trans (Kx.of Su)) ((R6.mono Su).le (by omega))
    rw [upd_same, Int.natCast_add]
    rfl
/-! ### the law's residues -/
theorem sum_take (gs : List Int) (k : Nat) : (gs.take k).sum = pre gs k := rfl
theorem sum_drop {gs : List Int} {k : Nat} : (gs.drop k).sum = gs.sum - pre gs k := by
  have h : (gs.take k ++ gs.drop k).sum = gs.sum := by rw [List.take_append_drop]
  rw [List.sum_append] at h
  unfold pre
  omega
theorem pre_all (gs : List Int) : pre gs gs.length = gs.sum := by unfold pre; rw [List.take_length]
def spLRes : Sp := fun vs H Q _ => ∃ (g : Addr) (gs : List Int) (m : Nat) (s : Int), vs = [.ref g, .int (m : Int), .int s] ∧ H g = some (.lst (gs.map V.int)) ∧ GapsOk gs ∧ 1 ≤ m ∧ m ≤ gs.length ∧
  ∀ u r H', H r = none → Same H H' → H' u = some (.tup [.int (per gs m), .ref r]) → H' r = some (.lst ((resid gs m s).map V.int)) → Q (.ref u) H'
def lrN : List Str := ["_law_gaps", "_law_count", "_law_start", "_law_first", "_law_offset", "_law_period", "_law_result", "_law_gap"]
theorem scLRes : FnScope lrN ["_law_gaps", "_law_count", "_law_start"] (defScope s_law_residues) := ⟨rfl, rfl, rfl, by decide +kernel, rfl, by decide +kernel, by decide +kernel⟩
theorem ok_lres {f C : Addr} {fd : FuncData} (F : Fun K "_law_residues" "_law_residues" s_law_residues f fd) (T : Txt K mg C) : FnOk P w K mg base CX0 1 f fd ["_law_gaps", "_law_count", "_law_start"] spLRes := by
  refine F.ok scLRes (fun vs H Q E h => ?_) (fun cdv A outer s H vs Q E hr h => ?_)
  · obtain ⟨g, gs, m, s, rfl, _⟩ := h
    rfl
  · obtain ⟨g, gs, m, st, rfl, hg, okG, h1, h2, k⟩ := h
    have hg20 := okG.1
    have hp := per_bd okG h1 h2
    refine ⟨_, (pss_cons (ps_set (i := 3) scLRes.nd rfl (Or.inl rfl) (pe_op op_sub (pe_callB call_len_seq (by rfl) T.len (by decide +kernel) (pa_cons (pv 0) pa_nil)) (pv 1))) (pss_cons (ps_set (i := 4) scLRes.nd rfl (Or.inl rfl) (pe_callB (cr_sum rfl) (by rfl) T.sum (by decide +kernel) (pa_cons (pe_slice sl_list (pv 0) po_none (po_some (pv 3))) pa_nil))) (pss_cons (ps_set (i := 5) scLRes.nd rfl (Or.inl rfl) (pe_callB (cr_sum rfl) (by rfl) T.sum (by decide +kernel) (pa_cons (pe_slice sl_list (pv 0) (po_some (pv 3)) po_none) pa_nil))) (pss_cons (ps_set (i := 6) scLRes.nd rfl (Or.inl rfl) (pe_lst pa_nil)) (pss_cons (ps_for PassesOwn.never rfl (pi_list (pe_slice sl_list (pv 0) (po_some (pv 3)) po_none)) (pg_name (i := 7) scLRes.nd rfl (Or.inl rfl)) (pss_cons (ps_expr (pe_bm PySem.F.plainAttrs_list PySem.F.slot_list_append PySem.F.type_list_append mt_append (pv 6) (pa_cons (pe_op op_mod (pe_callTy call_int1 (by rfl) T.int (by decide +kernel) (pa_cons (pe_op op_add (pv 2) (pv 4)) pa_nil)) (pv 5)) pa_nil))) (pss_one (ps_set (i := 4) scLRes.nd rfl (Or.inl rfl) (pe_op op_add (pv 4) (pv 7)))))) (pss_one (ps_ret (pe_tup (pa_cons (pv 5) (pa_cons (pv 6) pa_nil)))))))))), ?_⟩
    refine ⟨_, rfl, g, _, rfl, .inl (SqL.of hg), _, rfl, _, _, rfl, rfl, ?_⟩
    have e1 : (((gs.map V.int).length : Nat) : Int) - (m : Int) = ((gs.length - m : Nat) : Int) := by rw [List.length_map]; omega
    dsimp only [gName]
    rw [e1]
    -- the first offset
    refine ⟨_, rfl, _, rfl, _, rfl, g, _, rfl, SqL.of hg, fun l1 hl1 => ?_⟩
    rw [cut_to, ← List.map_take]
    have s1 := same_new (o := .lst ((gs.take (gs.length - m)).map V.int)) hl1
    refine ⟨l1, gs.take (gs.length - m), rfl, SqL.of upd_same, ?_⟩
    rw [sum_take]
    -- the period
    refine ⟨_, rfl, _, rfl, _, rfl, g, _, rfl, SqL.of (s1 _ _ hg), fun l2 hl2 => ?_⟩
    rw [cut_from _ (by rw [List.length_map]; omega), ← List.map_drop]
    have s2 := s1.trans (same_new (o := .lst ((gs.drop (gs.length - m)).map V.int)) hl2)
    refine ⟨l2, gs.drop (gs.length - m), rfl, SqL.of upd_same, ?_⟩
    have ep : (gs.drop (gs.length - m)).sum = per gs m := by rw [sum_drop, ← pre_all]; rfl
    rw [ep]
    refine ⟨by show 0 ≤ sizeLine; decide, fun r hrn => ?_⟩
    have s3 := s2.trans (same_new (o := .lst []) hrn)
    refine ⟨_, rfl, _, rfl, _, rfl, g, _, rfl, SqL.of (s3 _ _ hg), fun l3 hl3 => ?_⟩
    rw [cut_from _ (by rw [List.length_map]; omega), ← List.map_drop]
    have hr0 := same_new (o := .lst ((gs.drop (gs.length - m)).map V.int)) hl3 _ _ (upd_same (o := HO.lst []))
    have s4 := s3.trans (same_new (o := .lst ((gs.drop (gs.length - m)).map V.int)) hl3)
    have hl3' := upd_same (H := upd (upd (upd H l1 (.lst ((gs.take (gs.length - m)).map V.int))) l2 (.lst ((gs.drop (gs.length - m)).map V.int))) r (.lst [])) (a := l3) (o := .lst ((gs.drop (gs.length - m)).map V.int))
    have hHr : H r = none := s2.free hrn
    generalize (upd (upd (upd (upd H l1 (.lst ((gs.take (gs.length - m)).map V.int))) l2 (.lst ((gs.drop (gs.length - m)).map V.int))) r (.lst [])) l3 (.lst ((gs.drop (gs.length - m)).map V.int))) = H4 at s4 hl3' hr0 ⊢
    have nl3 : l3 ≠ r := fun z => by rw [z] at hl3; rw [upd_same] at hl3; cases hl3
    have hdl : (gs.drop (gs.length - m)).length = m := by rw [List.length_drop]; omega
    refine ⟨l3, rfl, ⟨_, SqL.of hl3'⟩, for_list (a := l3) (xs := (gs.drop (gs.length - m)).map V.int) (fun i σ H' => Kx r H4 H' ∧ (∃ v7, σ = [some (.ref g), some (.int (m : Int)), some (.int st), some (.int ((gs.length - m : Nat) : Int)), some (.int (pre gs (gs.length - m + i))), some (.int (per gs m)), some (.ref r), v7]) ∧ H' r = some (.lst (((resid gs m st).take i).map V.int)))
      ⟨Kx.refl _ _, ⟨none, rfl⟩, hr0⟩ (fun i σ H' _ p => SqL.of (p.1 _ _ nl3 hl3')) ?_ ?_⟩
    · rintro i x σ H5 hx ⟨kx, ⟨v7, rfl⟩, hr5⟩
      have hi := (List.getElem?_eq_some_iff.mp hx).1
      rw [List.length_map, hdl] at hi
      obtain ⟨y, hy, rfl⟩ := map_of hx
      rw [List.getElem?_drop] at hy
      refine ⟨_, rfl, .inl ⟨rfl, _, SqL.of hr5⟩, _, rfl, _, rfl, _, _, rfl, rfl, ?_⟩
      refine .inl ⟨_, rfl, ?_⟩
      refine ⟨_, rfl, ?_⟩
      refine ⟨_, _, rfl, rfl, (by show (0 : Int) < per gs m; omega), ?_⟩
      refine ⟨r, _, _, rfl, rfl, hr5, ?_, ?_⟩
      · rw [List.length_map, List.length_take]
        exact small1000 (by rw [resid_len]; omega)
      refine ⟨_, rfl, _, rfl, _, _, rfl, rfl, kx.trans Kx.upd, ⟨some (.int y), ?_⟩, ?_⟩
      · rw [show gs.length - m + (i + 1) = gs.length - m + i + 1 by omega, pre_succ gs hy]
        rfl
      · have e : (resid gs m st)[i]? = some ((st + pre gs (gs.length - m + i)) % per gs m) := by
          unfold resid repOffs
          rw [List.getElem?_map, List.getElem?_map, List.getElem?_range hi]
          rfl
        rw [upd_same, List.take_add_one, e, List.map_append]
        rfl
    · rintro σ H5 ⟨kx, ⟨v7, rfl⟩, hr5⟩
      rw [List.length_map, hdl, List.take_of_length_le (by rw [resid_len]; omega)] at hr5
      refine ⟨_, rfl, _, rfl, (by show 2 ≤ sizeLine; decide), fun u hu => ?_⟩
      have s5 : Same H H5 := fun b o e => kx _ _ (ne_of_none e hHr) (s4 _ _ e)
      exact k u r _ hHr (s5.trans (same_new hu)) upd_same (same_new hu _ _ hr5)
end
end RS
namespace RS
open PySem L2
/-! ### all but two places -/
def Kx2 (a r : Addr) (H H' : Hp) : Prop := ∀ c u, c ≠ a → c ≠ r → H c = some u → H' c = some u
theorem Kx2.refl (a r : Addr) (H : Hp) : Kx2 a r H H := fun _ _ _ _ h => h
theorem Kx2.kx {a r : Addr} {H H1 H2 : Hp} (x : Kx2 a r H H1) (y : Kx a H1 H2) : Kx2 a r H H2 := fun c u n m h => y c u n (x c u n m h)
theorem Kx2.same {a r : Addr} {H H1 H2 : Hp} (x : Kx2 a r H H1) (y : Same H1 H2) : Kx2 a r H H2 := fun c u n m h => y c u (x c u n m h)
theorem Kx2.upd {a r : Addr} {H H1 : Hp} {o : HO} (x : Kx2 a r H H1) : Kx2 a r H (upd H1 r o) := fun c u n m h => by
  rw [upd_ne m]
  exact x c u n m h
theorem Src.off {H : Hp} {a r : Addr} {b : Nat} {o : HO} (h : Src H a b) (n : a ≠ r) : Src (upd H r o) a b := by
  obtain ⟨s0, s1, s2, h1, h2⟩ := h.ex
  exact ⟨s0, s1, s2, by rw [upd_ne n]; exact h1, h2⟩
theorem int_of_mem {xs : List Int} {x : V} (h : x ∈ xs.map V.int) : ∃ i, x = .int i ∧ i ∈ xs := by
  obtain ⟨i, hi, rfl⟩ := List.mem_map.mp h
  exact ⟨i, rfl, hi⟩
section
variable {P : Program} {w : World} {K : PySem.W.Frag} {mg : Str → Option Value} {base : Heap}
def spSts : Sp := fun vs H Q _ => ∃ (a g : Addr) (gs : List Int) (m : Nat) (mo : Nat) (b : Nat), vs = [.ref a, .ref g, .int (m : Int), .int (mo : Int)] ∧ Src H a b ∧ b ≤ 50000 ∧ g ≠ a ∧ H g = some (.lst (gs.map V.int)) ∧ GapsOk gs ∧ 1 ≤ m ∧ m ≤ gs.length ∧ 1 ≤ mo ∧ mo ≤ 40 ∧
  ∀ (r : Addr) (bs : List Int) (H' : Hp), H r = none → H' r = some (.lst (bs.map V.int)) → 1 ≤ bs.length → bs.length ≤ mo → Kx a H H' → Src H' a (b + 400) → Q (.ref r) H'
def lsN : List Str := ["_law_source", "_law_gaps", "_law_count", "_law_most", "_law_period", "_law_own", "_law_result", "_law_client", "_law_base", "_law_apart", "_law_far"]
theorem scSts : FnScope lsN ["_law_source", "_law_gaps", "_law_count", "_law_most"] (defScope s_law_starts) := ⟨rfl, rfl, rfl, by decide +kernel, rfl, by decide +kernel, by decide +kernel⟩
theorem ok_sts {f C fN fO fR : Addr} {fd fdN fdO fdR : FuncData} (F : Fun K "_law_starts" "_law_starts" s_law_starts f fd) (T : Txt K mg C) (GN : FnOk P w K mg base CX0 1 fN fdN ["_law_source", "_law_bound"] spNext) (bN : Binds K fdN ["_law_source", "_law_bound"] []) (mN : mg "_law_draw" = some (.ref fN)) (kN : PySem.W.keepIn K (.ref fN) = true)
    (GO : FnOk P w K mg base CX0 2 fO fdO ["_law_source", "_law_options"] spOne) (bO : Binds K fdO ["_law_source", "_law_options"] []) (mO : mg "_law_choice" = some (.ref fO)) (kO : PySem.W.keepIn K (.ref fO) = true)
    (GR : FnOk P w K mg base CX0 1 fR fdR ["_law_gaps", "_law_count", "_law_start"] spLRes) (bR : Binds K fdR ["_law_gaps", "_law_count", "_law_start"] []) (mR : mg "_law_residues" = some (.ref fR)) (kR : PySem.W.keepIn K (.ref fR) = true) : FnOk P w K mg base CX0 3 f fd ["_law_source", "_law_gaps", "_law_count", "_law_most"] spSts := by
  refine F.ok scSts (fun vs H Q E h => ?_) (fun cdv A outer s H vs Q E hr h => ?_)
  · obtain ⟨a, g, gs, m, mo, b, rfl, _⟩ := h
    rfl
  · obtain ⟨a, g, gs, m, mo, b, rfl, S, hb, nga, hg, okG, h1, h2, hm1, hm40, k⟩ := h
    have hr1 := hr.mono (show 1 ≤ 2 by decide)
    have hp := per_bd okG h1 h2
    refine ⟨_, (pss_cons (ps_asg (pe_call GR hr1 rfl mR kR bR .nil pass0 (pa_cons (pv 1) (pa_cons (pv 2) (pa_cons pe_int pa_nil)))) (pg_tup rfl (pgs_cons (pg_name (i := 4) scSts.nd rfl (Or.inl rfl)) (pgs_cons (pg_name (i := 5) scSts.nd rfl (Or.inl rfl)) pgs_nil)))) (pss_cons (ps_set (i := 6) scSts.nd rfl (Or.inl rfl) (pe_lst (pa_cons (pe_op op_sub (pe_call GN hr1 rfl mN kN bN .nil pass0 (pa_cons (pv 0) (pa_cons pe_int pa_nil))) pe_int) pa_nil))) (pss_cons (ps_for PassesOwn.never rfl (pi_range1 rfl T.range (pa_cons (pe_call GN hr1 rfl mN kN bN .nil pass0 (pa_cons (pv 0) (pa_cons (pv 3) pa_nil))) pa_nil)) (pg_name (i := 7) scSts.nd rfl (Or.inl rfl)) (pss_cons (ps_set (i := 8) scSts.nd rfl (Or.inl rfl) (pe_call GO hr rfl mO kO bO .nil pass0 (pa_cons (pv 0) (pa_cons (pv 6) pa_nil)))) (pss_cons (ps_set (i := 9) scSts.nd rfl (Or.inl rfl) (pe_op op_sub (pe_call GO hr rfl mO kO bO .nil pass0 (pa_cons (pv 0) (pa_cons (pv 5) pa_nil))) (pe_call GO hr rfl mO kO bO .nil pass0 (pa_cons (pv 0) (pa_cons (pv 5) pa_nil))))) (pss_cons (ps_set (i := 10) scSts.nd rfl (Or.inl rfl) (pe_op op_mul (pv 4) (pe_call GO hr rfl mO kO bO .nil pass0 (pa_cons (pv 0) (pa_cons (pe_lst (pa_cons pe_int (pa_cons pe_int (pa_cons pe_int (pa_cons (pe_un un_neg pe_int) (pa_cons (pe_call GN hr1 rfl mN kN bN .nil pass0 (pa_cons (pv 0) (pa_cons (pe_op op_pow pe_int pe_int) pa_nil))) pa_nil)))))) pa_nil))))) (pss_one (ps_expr (pe_bm PySem.F.plainAttrs_list PySem.F.slot_list_append PySem.F.type_list_append mt_append (pv 6) (pa_cons (pe_op op_add (pv 8) (pe_call GO hr rfl mO kO bO .nil pass0 (pa_cons (pv 0) (pa_cons (pe_lst (pa_cons (pv 9) (pa_cons (pv 9) (pa_cons (pe_op op_add (pv 9) (pv 10)) (pa_cons (pv 10) (pa_cons (pe_op op_sub (pe_call GN hr1 rfl mN kN bN .nil pass0 (pa_cons (pv 0) (pa_cons pe_int pa_nil))) pe_int) pa_nil)))))) pa_nil)))) pa_nil)))))))) (pss_one (ps_ret (pv 6)))))), ?_⟩
    refine ⟨_, rfl, _, rfl, g, gs, m, 0, rfl, hg, okG, h1, h2, fun u ow H1 how S1 hu how1 => ?_⟩
    refine ⟨u, _, rfl, SqT.of hu, rfl, _, _, rfl, _, _, rfl, rfl, ?_⟩
    have R1 := S.mono S1
    have nwa : ow ≠ a := (S.new how).symm
    -- the first start
    refine ⟨_, rfl, a, 60, b, rfl, R1, by omega, by decide, by decide, fun x0 H2 _ _ kx2 R2 => ?_⟩
    refine ⟨_, _, rfl, rfl, (by show 1 ≤ sizeLine; decide), fun r hrn => ?_⟩
    have how2 := kx2 _ _ nwa how1
    have nra : r ≠ a := (R2.new hrn).symm
    have nrw : ow ≠ r := ne_of_none how2 hrn
    have S3 := same_new (o := .lst [V.int (x0 - 30)]) hrn
    have kx3 : Kx a H (upd H2 r (.lst [V.int (x0 - 30)])) := ((Kx.of S1).trans kx2).trans (Kx.of S3)
    have hr3 := upd_same (H := H2) (a := r) (o := .lst [V.int (x0 - 30)])
    have R3 := R2.mono S3
    have how3 := S3 _ _ how2
    have hHr : H r = none := ((Kx.of S1).trans kx2).free nra hrn
    generalize (upd H2 r (.lst [V.int (x0 - 30)])) = H3 at kx3 hr3 R3 how3 ⊢
    clear S3 R2 how2 kx2
    refine ⟨_, rfl, _, rfl, a, (mo : Int), b + 1, rfl, R3, by omega, by omega, by omega, fun cn H4 cn0 cn1 kx4 R4 => ?_⟩
    have hr4 := kx4 _ _ nra hr3
    have how4 := kx4 _ _ nwa how3
    refine ⟨cn, rfl, by omega, by omega, for_range (lo := 0) (n := cn.toNat) (fun i σ H' => (∃ v7 v8 v9 v10, σ = [some (.ref a), some (.ref g), some (.int (m : Int)), some (.int (mo : Int)), some (.int (per gs m)), some (.ref ow), some (.ref r), v7, v8, v9, v10]) ∧ Kx2 a r H4 H' ∧ Src H' a (b + 2 + 8 * i) ∧ ∃ bs : List Int, bs.length = 1 + i ∧ H' r = some (.lst (bs.map V.int)))
      ⟨⟨none, none, none, none, rfl⟩, Kx2.refl _ _ _, R4, [x0 - 30], rfl, hr4⟩ ?_ ?_⟩
    · rintro i σ H5 hi ⟨⟨v7, v8, v9, v10, rfl⟩, k5, R5, bs, hbl, hr5⟩
      have hiL : i ≤ 40 := by omega
      have how5 := k5 _ _ nwa nrw how4
      -- base
      refine ⟨_, rfl, _, rfl, a, r, bs.map V.int, b + 2 + 8 * i, rfl, R5, by omega, nra, hr5, by rw [List.length_map]; omega, by rw [List.length_map]; omega, fun x H6 hx kx6 R6 => ?_⟩
      obtain ⟨x, rfl, _⟩ := int_of_mem hx
      have hr6 := kx6 _ _ nra hr5
      have how6 := kx6 _ _ nwa how5
      -- apart
      refine ⟨_, rfl, _, rfl, a, ow, (resid gs m 0).map V.int, b + 2 + 8 * i + 1, rfl, R6, by omega, nwa, how6, by rw [List.length_map, resid_len]; omega, by rw [List.length_map, resid_len]; have := okG.1; omega, fun y H7 hy kx7 R7 => ?_⟩
      obtain ⟨y, rfl, _⟩ := int_of_mem hy
      refine ⟨_, rfl, _, rfl, a, ow, (resid gs m 0).map V.int, b + 2 + 8 * i + 1 + 1, rfl, R7, by omega, nwa, kx7 _ _ nwa how6, by rw [List.length_map, resid_len]; omega, by rw [List.length_map, resid_len]; have := okG.1; omega, fun z H8 hz kx8 R8 => ?_⟩
      obtain ⟨z, rfl, _⟩ := int_of_mem hz
      refine ⟨_, _, rfl, rfl, ?_⟩
      -- far
      refine ⟨_, rfl, _, rfl, _, rfl, _, rfl, _, _, rfl, rfl, ⟨by decide, by decide, by decide⟩, a, _, b + 2 + 8 * i + 1 + 1 + 1, rfl, R8, by omega, by decide, by decide, fun d H9 _ _ kx9 R9 => ?_⟩
      refine ⟨(by show 5 ≤ sizeLine; decide), fun q1 hq1 => ?_⟩
      refine ⟨a, q1, [V.int 0, .int 0, .int 1, .int (-2), .int d], b + 2 + 8 * i + 1 + 1 + 1 + 1, rfl, R9.mono (same_new hq1), by omega, (R9.new hq1).symm, upd_same, by show 0 < 5; decide, by show 5 < 1000; decide, fun e H10 he kx10 R10 => ?_⟩
      obtain ⟨e, rfl⟩ : ∃ i : Int, e = .int i := by
        simp only [List.mem_cons, List.not_mem_nil, or_false] at he
        rcases he with rfl | rfl | rfl | rfl | rfl <;> exact ⟨_, rfl⟩
      refine ⟨_, _, rfl, rfl, .inl ⟨by omega, by omega⟩, ?_⟩
      have kx610 : Kx a H5 H10 := ((((kx6.trans kx7).trans kx8).trans kx9).trans (Kx.of (same_new hq1))).trans kx10
      have hr10 := kx610 _ _ nra hr5
      -- the next start
      refine ⟨_, rfl, .inl ⟨rfl, _, SqL.of hr10⟩, _, rfl, _, rfl, _, rfl, _, rfl, _, rfl, _, rfl, _, _, rfl, rfl, _, rfl, _, rfl, a, 60, b + 2 + 8 * i + 1 + 1 + 1 + 1 + 1, rfl, R10, by omega, by decide, by decide, fun d2 H11 _ _ kx11 R11 => ?_⟩
      refine ⟨_, _, rfl, rfl, (by show 5 ≤ sizeLine; decide), fun q2 hq2 => ?_⟩
      refine ⟨a, q2, _, b + 2 + 8 * i + 1 + 1 + 1 + 1 + 1 + 1, rfl, R11.mono (same_new hq2), by omega, (R11.new hq2).symm, upd_same, by show 0 < 5; decide, by show 5 < 1000; decide, fun e2 H12 he2 kx12 R12 => ?_⟩
      obtain ⟨e2, rfl⟩ : ∃ i : Int, e2 = .int i := by
        simp only [List.mem_cons, List.not_mem_nil, or_false] at he2
        rcases he2 with rfl | rfl | rfl | rfl | rfl <;> exact ⟨_, rfl⟩
      have kx512 : Kx a H5 H12 := ((kx610.trans kx11).trans (Kx.of (same_new hq2))).trans kx12
      have hr12 := kx512 _ _ nra hr5
      refine ⟨_, _, rfl, rfl, r, _, _, rfl, rfl, hr12, ?_, ?_⟩
      · rw [List.length_map]
        exact small1000 (by omega)
      exact ⟨⟨_, _, _, _, rfl⟩, (k5.kx kx512).upd, (R12.off nra.symm).le (by omega), bs ++ [x + e2], by rw [List.length_append, hbl]; show 1 + i + 1 = _; omega, by rw [upd_same, List.map_append]; rfl⟩
    · rintro σ H5 ⟨⟨v7, v8, v9, v10, rfl⟩, k5, R5, bs, hbl, hr5⟩
      refine ⟨_, rfl, k r bs H5 hHr hr5 (by omega) (by omega) (fun c u n e => k5 c u n (ne_of_none e hHr) (kx4 c u n (kx3 c u n e))) (R5.le (by omega))⟩
end
end RS
namespace RS
open PySem L2
/-! ### a counting dict, its keys -/
def Keyed (kvs : List (Key × V)) (ks : List Int) : Prop := kvs.map (·.1) = ks.map (fun r => (Sum.inl r : Key))
theorem Keyed.nil : Keyed [] [] := rfl
theorem Keyed.put {kvs : List (Key × V)} {ks : List Int} (h : Keyed kvs ks) (r : Int) (v : V) : ∃ ks', Keyed (putK kvs (Sum.inl r) v) ks' := by
  unfold putK
  split
  · refine ⟨ks, ?_⟩
    unfold Keyed at h ⊢
    rw [List.map_map, ← h]
    refine List.map_congr_left fun p _ => ?_
    show (if p.1 = Sum.inl r then (p.1, v) else p).1 = p.1
    split <;> rfl
  · refine ⟨ks ++ [r], ?_⟩
    unfold Keyed at h ⊢
    rw [List.map_append, List.map_append, h]
    rfl
theorem Keyed.at {kvs : List (Key × V)} {ks : List Int} (h : Keyed kvs ks) {i : Nat} {k : Key} {v : V} (e : kvs[i]? = some (k, v)) : ∃ r, ks[i]? = some r ∧ k = Sum.inl r := by
  have e1 : (kvs.map (·.1))[i]? = some k := by rw [List.getElem?_map, e]; rfl
  rw [h, List.getElem?_map] at e1
  cases e2 : ks[i]? with
  | none => rw [e2] at e1; cases e1
  | some r => rw [e2] at e1; exact ⟨r, rfl, (Option.some.inj e1).symm⟩
theorem Keyed.mem {kvs : List (Key × V)} {ks : List Int} (h : Keyed kvs ks) {f : Int → Nat} (hf : CntD kvs f) (r : Int) : r ∈ ks ↔ f r ≠ 0 := by
  have e1 : r ∈ ks ↔ (Sum.inl r : Key) ∈ kvs.map (·.1) := by
    rw [h]
    constructor
    · exact fun z => List.mem_map.mpr ⟨r, z, rfl⟩
    · intro z
      obtain ⟨y, hy, e⟩ := List.mem_map.mp z
      rw [← Sum.inl.inj e]
      exact hy
  have e2 : (Sum.inl r : Key) ∈ kvs.map (·.1) ↔ (valV kvs (Sum.inl r)).isSome = true := by
    rw [← valV_any, List.any_eq_true]
    constructor
    · intro z
      obtain ⟨p, hp, e⟩ := List.mem_map.mp z
      exact ⟨p, hp, decide_eq_true e⟩
    · rintro ⟨p, hp, e⟩
      exact List.mem_map.mpr ⟨p, hp, of_decide_eq_true e⟩
  rw [e1, e2, hf r]
  split <;> simp_all
theorem closed_iff {T : List (List Int)} {M : List Nat} : ClosedS T M ↔ ∀ r, cnt T M r ≠ 0 → 1 < cnt T M r := by
  constructor
  · intro h r hr
    have : ∃ c ∈ M, r ∈ T.getD c [] := by
      refine Classical.byContradiction fun z => hr ?_
      refine List.sum_eq_zero_iff_forall_eq_nat.mpr fun x hx => ?_
      obtain ⟨c, hc, rfl⟩ := List.mem_map.mp hx
      exact List.count_eq_zero.mpr fun q => z ⟨c, hc, q⟩
    obtain ⟨c, hc, hr⟩ := this
    exact of_decide_eq_true (List.all_eq_true.mp (h c hc) r hr)
  · intro h c hc
    refine List.all_eq_true.mpr fun r hr => decide_eq_true (h r ?_)
    have h2 := List.count_pos_iff.mpr hr
    have h3 := mem_le_sum (List.mem_map.mpr ⟨c, hc, rfl⟩ : (T.getD c []).count r ∈ M.map fun c => (T.getD c []).count r)
    unfold cnt
    omega
section
variable {P : Program} {w : World} {K : PySem.W.Frag} {mg : Str → Option Value} {base : Heap}
def spClo : Sp := fun vs H Q _ => ∃ (g b ms : Addr) (gs : List Int) (m : Nat) (bs : List Int) (M : List Nat), vs = [.ref g, .int (m : Int), .ref b, .ref ms] ∧ H g = some (.lst (gs.map V.int)) ∧ GapsOk gs ∧ 1 ≤ m ∧ m ≤ gs.length ∧ H b = some (.lst (bs.map V.int)) ∧ H ms = some (.lst (M.map nV)) ∧ (∀ x ∈ M, x < bs.length) ∧ M.length ≤ 100 ∧
  ∀ r H', (r = true ↔ ClosedS (tabOf gs m bs) M) → Same H H' → Q (.bl r) H'
def lcN : List Str := ["_law_gaps", "_law_count", "_law_starts_here", "_law_members", "_law_counts", "_law_member", "_law_residue"]
theorem scClo : FnScope lcN ["_law_gaps", "_law_count", "_law_starts_here", "_law_members"] (defScope s_law_closed) := ⟨rfl, rfl, rfl, by decide +kernel, rfl, by decide +kernel, by decide +kernel⟩
theorem tab_row {gs : List Int} {m : Nat} {bs : List Int} {c : Nat} {s : Int} (h : bs[c]? = some s) : (tabOf gs m bs).getD c [] = resid gs m s := by
  unfold tabOf
  rw [List.getD_eq_getElem?_getD, List.getElem?_map, h]
  rfl
theorem ok_clo {f C fR : Addr} {fd fdR : FuncData} (F : Fun K "_law_closed" "_law_closed" s_law_closed f fd) (T : Txt K mg C) (GR : FnOk P w K mg base CX0 1 fR fdR ["_law_gaps", "_law_count", "_law_start"] spLRes) (bR : Binds K fdR ["_law_gaps", "_law_count", "_law_start"] []) (mR : mg "_law_residues" = some (.ref fR)) (kR : PySem.W.keepIn K (.ref fR) = true) : FnOk P w K mg base CX0 2 f fd ["_law_gaps", "_law_count", "_law_starts_here", "_law_members"] spClo := by
  refine F.ok scClo (fun vs H Q E h => ?_) (fun cdv A outer s H vs Q E hr h => ?_)
  · obtain ⟨g, b, ms, gs, m, bs, M, rfl, _⟩ := h
    rfl
  · obtain ⟨g, b, ms, gs, m, bs, M, rfl, hg, okG, h1, h2, hb, hms, hin, hM, k⟩ := h
    have hu := hu_of hr
    have hg20 := okG.1
    refine ⟨_, (pss_cons (ps_set (i := 4) scClo.nd rfl (Or.inr rfl) pe_dnewK) (pss_cons (ps_for PassesOwn.never rfl (pi_list (pv 3)) (pg_name (i := 5) scClo.nd rfl (Or.inl rfl)) (pss_one (ps_for PassesOwn.never rfl (pi_list (pe_ix ix_tup (pe_call GR hr rfl mR kR bR .nil pass0 (pa_cons (pv 0) (pa_cons (pv 1) (pa_cons (pe_ix ix_list (pv 2) (pv 5) (fun _ _ => rfl)) pa_nil)))) pe_int (fun _ _ => rfl))) (pg_name (i := 6) scClo.nd rfl (Or.inl rfl)) (pss_one (ps_dput hu (pv 4) (pv 6) (pe_op op_add (pe_dget2 hu (pv 4) (pv 6) pe_int ⟨by rfl, by rfl, by rfl, by rfl⟩) pe_int) rfl))))) (pss_one (ps_ret (pe_cmpR (op_eqD hr.units) (pe_lock (pe_lc (own := [("_law_residue", 6)]) (g := gName 6) rfl scClo.nd (pi_keys (pv 4)) (blkOk_by (own := [("_law_residue", 6)]) (N := lcN) (sc := (defScope s_law_closed)) (by decide +kernel)) (fun _ _ _ _ _ => (pg_name (i := 6) scClo.nd rfl (Or.inl rfl))) (fun _ _ _ _ _ => pts_one (pt_cmpR op_lt (pe_dget hu (pv 4) (pv 6) (fun _ _ => rfl)) pe_int (nomark _))) (fun _ _ _ _ _ => (pv 6)))) (pe_lst pa_nil) (nomark _)))))), ?_⟩
    intro d hd
    have ndb : b ≠ d := ne_of_none hb hd
    have ndg : g ≠ d := ne_of_none hg hd
    have ndm : ms ≠ d := ne_of_none hms hd
    refine ⟨_, rfl, ms, rfl, ⟨_, SqL.of (by rw [upd_ne ndm]; exact hms)⟩, for_list (a := ms) (xs := M.map nV) (fun i σ H' => Kx d H H' ∧ ∃ kvs ks v5 v6, σ = [some (.ref g), some (.int (m : Int)), some (.ref b), some (.ref ms), some (.ref d), v5, v6] ∧ H' d = some (.dK kvs) ∧ CntD kvs (cnt (tabOf gs m bs) (M.take i)) ∧ Keyed kvs ks ∧ kvs.length ≤ 20 * i)
      ⟨fun b o nb e => by rw [upd_ne nb]; exact e, [], [], none, none, rfl, upd_same, CntD.nil, Keyed.nil, Nat.zero_le _⟩ (fun i σ H' _ q => SqL.of (q.1 _ _ ndm hms)) ?_ ?_⟩
    · rintro i x σ H2 hx ⟨K2, kvs, ks, w5, w6, rfl, hd2, hC, hK, hkv⟩
      have hi := (List.getElem?_eq_some_iff.mp hx).1
      rw [List.length_map] at hi
      obtain ⟨c, hc, rfl⟩ := nmap_of hx
      have hcl := hin c (mem_get hc)
      have eb := List.getElem?_eq_getElem hcl
      have hrow := tab_row (gs := gs) (m := m) eb
      refine ⟨_, rfl, _, rfl, _, rfl, _, rfl, b, _, _, _, rfl, rfl, SqL.of (K2 _ _ ndb hb), at_map eb, ?_⟩
      refine ⟨g, gs, m, bs[c], rfl, K2 _ _ ndg hg, okG, h1, h2, fun u rr H3 hrr S3 hu3 hrr3 => ?_⟩
      refine ⟨u, _, _, .ref rr, rfl, rfl, SqT.of hu3, atI_nat (j := 1) rfl, ?_⟩
      have nrd : rr ≠ d := fun z => by rw [z, hd2] at hrr; cases hrr
      have hd3 := S3 _ _ hd2
      have K3 : Kx d H H3 := K2.trans (Kx.of S3)
      refine ⟨rr, rfl, ⟨_, SqL.of hrr3⟩, for_list (a := rr) (xs := (resid gs m bs[c]).map V.int) (fun j σ H' => Kx d H H' ∧ H' rr = some (.lst ((resid gs m bs[c]).map V.int)) ∧ ∃ kvs ks v6, σ = [some (.ref g), some (.int (m : Int)), some (.ref b), some (.ref ms), some (.ref d), some (.int (c : Int)), v6] ∧ H' d = some (.dK kvs) ∧ CntD kvs (fun y => cnt (tabOf gs m bs) (M.take i) y + ((resid gs m bs[c]).take j).count y) ∧ Keyed kvs ks ∧ kvs.length ≤ 20 * i + j)
        ⟨K3, hrr3, kvs, ks, w6, rfl, hd3, hC.congr (fun y => by simp), hK, hkv⟩ (fun j σ H' _ q => SqL.of q.2.1) ?_ ?_⟩
      · rintro j x σ H4 hx ⟨K4, hr4, kvs4, ks4, w6, rfl, hd4, hC4, hK4, hkv4⟩
        have hj := (List.getElem?_eq_some_iff.mp hx).1
        rw [List.length_map, resid_len] at hj
        obtain ⟨y, hy, rfl⟩ := map_of hx
        refine ⟨_, rfl, d, rfl, .inl ⟨kvs4, .inl hd4⟩, _, rfl, _, DGet.k (k := Sum.inl y) hd4, ?_⟩
        rw [hC4.get y]
        refine ⟨_, _, rfl, rfl, _, rfl, _, rfl, d, _, rfl, DPut.k (k := Sum.inl y) hd4 (small_line (by omega)), ?_⟩
        obtain ⟨ks5, hK5⟩ := hK4.put y (V.int (((cnt (tabOf gs m bs) (M.take i) y + ((resid gs m bs[c]).take j).count y : Nat) : Int) + 1))
        refine ⟨K4.trans Kx.upd, by rw [upd_ne nrd]; exact hr4, _, ks5, _, rfl, upd_same, hC4.put y (fun z => ?_), hK5, ?_⟩
        · rw [List.take_add_one, hy, List.count_append]
          show _ + (_ + List.count z [y]) = _
          rw [count_one]
          omega
        · exact Nat.le_trans (length_putK _ _ _) (by omega)
      · rintro σ H4 ⟨K4, hr4, kvs4, ks4, w6, rfl, hd4, hC4, hK4, hkv4⟩
        rw [List.length_map, List.take_length] at hC4
        rw [List.length_map, resid_len] at hkv4
        refine ⟨K4, kvs4, ks4, _, _, rfl, hd4, hC4.congr (fun y => ?_), hK4, by omega⟩
        rw [List.take_add_one, hc]
        show cnt _ (M.take i ++ [c]) y = _
        rw [cnt_snoc, hrow]
    rintro σ H2 ⟨K2, kvs, ks, w5, w6, rfl, hd2, hC, hK, hkv⟩
    rw [List.length_map, List.take_length] at hC
    have hkl : kvs.length = ks.length := by
      have := congrArg List.length hK
      simpa using this
    rw [List.length_map] at hkv
    have S2 : Same H H2 := fun b o e => K2 _ _ (ne_of_none e hd) e
    -- what is counted once
    refine ⟨d, .dK kvs, hd2, trivial, fun od => ?_⟩
    have hd3 := upd_same (H := H2) (a := d) (o := .frz od (.dK kvs))
    refine ⟨_, rfl, d, od, rfl, .inl ⟨kvs, hd3, fun D hD => lc_it (walk_keys (d := d) (o := od) (kvs := kvs)) (fun i H' => Same (upd H2 d (.frz od (.dK kvs))) H' ∧ H' D = some (.lst (((ks.take i).filter fun r => decide (cnt (tabOf gs m bs) M r < 2)).map V.int))) ⟨same_app hD (fun _ _ e => e), upd_same⟩ (fun i H' _ q => q.1 _ _ hd3) (fun i x H4 H5 hi q hy => ?_) (fun H4 q => ?_)⟩⟩
    · obtain ⟨S4, hD4⟩ := q
      obtain ⟨rfl, kk, v, hkk, rfl⟩ := hy
      obtain ⟨r, hr0, rfl⟩ := hK.at hkk
      have hne := (hK.mem hC r).mp (mem_get hr0)
      refine ⟨rfl, _, rfl, _, rfl, d, .int (cnt (tabOf gs m bs) M r : Int), rfl, ?_, _, _, rfl, rfl, _, rfl, ?_⟩
      · refine .inl ⟨kvs, Sum.inl r, .inr ⟨od, S4 _ _ hd3⟩, rfl, ?_⟩
        rw [hC r, if_neg hne]
      rw [List.take_add_one, hr0, List.filter_append, List.map_append]
      by_cases hlt : cnt (tabOf gs m bs) M r < 2
      · refine iteTb (decide_eq_true (by omega)) ?_
        refine ⟨_, rfl, _, hD4, ?_, same_app hD S4, ?_⟩
        · rw [List.length_map]
          have h3 := (List.filter_sublist (p := fun r => decide (cnt (tabOf gs m bs) M r < 2)) (l := ks.take i)).length_le
          rw [List.length_take] at h3
          exact small_line (by omega)
        · rw [upd_same]
          show _ = some (HO.lst (_ ++ (List.filter _ [r]).map V.int))
          rw [show List.filter (fun r => decide (cnt (tabOf gs m bs) M r < 2)) [r] = [r] by simp [hlt]]
          rfl
      · refine iteFb (decide_eq_false (by omega)) ⟨S4, ?_⟩
        show _ = some (HO.lst (_ ++ (List.filter _ [r]).map V.int))
        rw [show List.filter (fun r => decide (cnt (tabOf gs m bs) M r < 2)) [r] = [] by simp [hlt], List.map_nil, List.append_nil]
        exact hD4
    · obtain ⟨S4, hD4⟩ := q
      rw [hkl, List.take_length] at hD4
      have nDd : D ≠ d := fun z => by rw [z, hd3] at hD; cases hD
      refine ⟨S4 _ _ hd3, by show 0 ≤ sizeLine; decide, fun e0 he0 => ?_⟩
      have hDl : upd H4 d (.dK kvs) D = some (.lst ((ks.filter fun r => decide (cnt (tabOf gs m bs) M r < 2)).map V.int)) := by rw [upd_ne nDd]; exact hD4
      refine ⟨_, _, list_dp (SqL.of (same_new he0 _ _ hDl)), list_dp (ns := []) (SqL.of upd_same), PySem.W.ke_shaped_ints _, PySem.W.ke_shaped_ints [], ?_⟩
      rw [list_eqv]
      refine k _ _ ?_ (fun b o e => ?_)
      · rw [decide_eq_true_iff, closed_iff, List.filter_eq_nil_iff]
        constructor
        · intro h r hr0
          have := h r ((hK.mem hC r).mpr hr0)
          simp at this
          omega
        · intro h r hr0
          have := h r ((hK.mem hC r).mp hr0)
          simp
          omega
      · refine same_new he0 _ _ ?_
        have nb : b ≠ d := ne_of_none e hd
        rw [upd_ne nb]
        exact S4 _ _ (by rw [upd_ne nb]; exact S2 _ _ e)
end
end RS
namespace RS
open PySem L2
/-! ### what is no integer, and the defs of a rule that raise -/
/-- a value whose type is known and is no int -/
def OddV (K : PySem.W.Frag) (H : Hp) (x : V) : Prop := ∃ tn : String, TyX K H x (.type tn) ∧ (tn = "bool" ∨ kitB tn "int" = some false)
section
variable {P : Program} {w : World} {K : PySem.W.Frag} {mg : Str → Option Value} {base : Heap}
def spIsAny (K : PySem.W.Frag) : Sp := fun vs H Q _ => ∃ x, vs = [x] ∧ ((∃ i, x = .int i ∧ Q (.bl true) H) ∨ (OddV K H x ∧ Q (.bl false) H))
theorem ok_isAny {f C : Addr} {fd : FuncData} (F : Fun K "is_integer" "is_integer" s_is_integer f fd) (T : Txt K mg C) : FnOk P w K mg base CX0 1 f fd ["value"] (spIsAny K) := by
  refine F.ok scIsInt (fun vs H Q E h => ?_) (fun cdv A outer s H vs Q E hr h => ?_)
  · obtain ⟨x, rfl, _⟩ := h
    rfl
  · obtain ⟨x, rfl, k⟩ := h
    refine ⟨_, pss_one (ps_ret (pe_and (pe_callB call_isi (by rfl) T.isi (by decide +kernel) (pa_cons (pv 0) (pa_cons (pe_bltn (v := .ty "int") (by rfl) T.int (by decide +kernel) rfl) pa_nil))) (pe_one (pe_not (pe_callB call_isi (by rfl) T.isi (by decide +kernel) (pa_cons (pv 0) (pa_cons (pe_bltn (v := .ty "bool") (by rfl) T.bool (by decide +kernel) rfl) pa_nil))))))), ?_⟩
    rcases k with ⟨i, rfl, k⟩ | ⟨⟨tn, ty, k2⟩, k⟩
    · refine ⟨_, rfl, _, _, _, _, _, rfl, .ty _, .base (.int i), kit_ty (r := true) (by decide +kernel), true, rfl, ?_⟩
      exact iteT ⟨_, rfl, _, _, _, _, _, rfl, .ty _, .base (.int i), kit_ty (r := false) (by decide +kernel), false, rfl, k⟩
    · rcases k2 with rfl | k2
      · refine ⟨_, rfl, _, _, _, _, _, rfl, .ty _, ty, kit_ty (r := true) (by decide +kernel), true, rfl, ?_⟩
        exact iteT ⟨_, rfl, _, _, _, _, _, rfl, .ty _, ty, kit_ty (r := true) (by decide +kernel), true, rfl, k⟩
      · exact ⟨_, rfl, _, _, _, _, _, rfl, .ty _, ty, kit_ty (r := false) k2, false, rfl, iteF k⟩
end
end RS
namespace RS
open PySem L2
/-! ### values of any kind, all apart from the object at a0 -/
mutual
inductive Dx (a0 : Addr → Prop) (H : Hp) : V → PyData → Prop
  | non : Dx a0 H .non .none
  | bl (b : Bool) : Dx a0 H (.bl b) (.bool b)
  | int (i : Int) : Dx a0 H (.int i) (.int i)
  | str (x : Str) : Dx a0 H (.str x) (.str x)
  | lst {a : Addr} {xs : List V} {ds : List PyData} : ¬ a0 a → H a = some (.lst xs) → DxAll a0 H xs ds → Dx a0 H (.ref a) (.list ds)
  | tup {a : Addr} {xs : List V} {ds : List PyData} : ¬ a0 a → H a = some (.tup xs) → DxAll a0 H xs ds → Dx a0 H (.ref a) (.tuple ds)
  | dct {a : Addr} : ¬ a0 a → H a = some (.dK []) → Dx a0 H (.ref a) (.dict [])
inductive DxAll (a0 : Addr → Prop) (H : Hp) : List V → List PyData → Prop
  | nil : DxAll a0 H [] []
  | cons {v : V} {vs : List V} {d : PyData} {ds : List PyData} : Dx a0 H v d → DxAll a0 H vs ds → DxAll a0 H (v :: vs) (d :: ds)
end
section
variable {a0 : Addr → Prop} {H H' : Hp}
mutual
theorem Dx.kx (k : ∀ c u, ¬ a0 c → H c = some u → H' c = some u) : ∀ (d : PyData) (v : V), Dx a0 H v d → Dx a0 H' v d
  | .none, _, h => by cases h; exact .non
  | .bool _, _, h => by cases h; exact .bl _
  | .int _, _, h => by cases h; exact .int _
  | .str _, _, h => by cases h; exact .str _
  | .list ds, _, h => by
    cases h with
    | lst n e r => exact .lst n (k _ _ n e) (DxAll.kx k ds _ r)
  | .tuple ds, _, h => by
    cases h with
    | tup n e r => exact .tup n (k _ _ n e) (DxAll.kx k ds _ r)
  | .dict _, _, h => by
    cases h with
    | dct n e => exact .dct n (k _ _ n e)
theorem DxAll.kx (k : ∀ c u, ¬ a0 c → H c = some u → H' c = some u) : ∀ (ds : List PyData) (vs : List V), DxAll a0 H vs ds → DxAll a0 H' vs ds
  | [], _, h => by cases h; exact .nil
  | d :: ds, _, h => by
    cases h with
    | cons h1 h2 => exact .cons (Dx.kx k d _ h1) (DxAll.kx k ds _ h2)
end
theorem Dx.same (s : Same H H') {v : V} {d : PyData} (h : Dx a0 H v d) : Dx a0 H' v d := Dx.kx (fun c u _ e => s c u e) d v h
theorem Dx.kx' (k : ∀ c u, ¬ a0 c → H c = some u → H' c = some u) {v : V} {d : PyData} (h : Dx a0 H v d) : Dx a0 H' v d := Dx.kx k d v h
theorem DxAll.same (s : Same H H') {v : List V} {d : List PyData} (h : DxAll a0 H v d) : DxAll a0 H' v d := DxAll.kx (fun c u _ e => s c u e) d v h
theorem DxAll.len : ∀ {vs : List V} {ds : List PyData}, DxAll a0 H vs ds → vs.length = ds.length
  | _, [], h => by cases h; rfl
  | _, d :: ds, h => by cases h with | cons _ h2 => rw [List.length_cons, List.length_cons, h2.len]
theorem DxAll.at : ∀ {vs : List V} {ds : List PyData}, DxAll a0 H vs ds → ∀ {i : Nat} {v : V}, vs[i]? = some v → ∃ d, ds[i]? = some d ∧ Dx a0 H v d
  | _, [], h, i, v, e => by cases h; simp at e
  | _, d :: ds, h, i, v, e => by
    cases h with
    | cons h1 h2 =>
      cases i with
      | zero => simp at e; subst e; exact ⟨d, rfl, h1⟩
      | succ i => exact h2.at (i := i) (by simpa using e)
end
/-- the name of a value's type -/
def tyN : PyData → String
  | .none => "NoneType"
  | .bool _ => "bool"
  | .int _ => "int"
  | .str _ => "str"
  | .list _ => "list"
  | .tuple _ => "tuple"
  | .dict _ => "dict"
theorem Dx.ty {K : PySem.W.Frag} {a0 : Addr → Prop} {H : Hp} {v : V} {d : PyData} (h : Dx a0 H v d) : TyX K H v (.type (tyN d)) := by
  cases h with
  | non => exact .base .non
  | bl b => exact .base (.bl b)
  | int i => exact .base (.int i)
  | str x => exact .base (.str x)
  | lst _ e _ => exact .base (.lst e)
  | tup _ e _ => exact .base (.tup e)
  | dct _ e => exact .base (.dK e)
def isIntD : PyData → Bool
  | .int _ => true
  | _ => false
theorem Dx.odd {K : PySem.W.Frag} {a0 : Addr → Prop} {H : Hp} {v : V} {d : PyData} (h : Dx a0 H v d) (n : isIntD d = false) : OddV K H v := by
  refine ⟨tyN d, h.ty, ?_⟩
  cases d with
  | bool b => exact .inl rfl
  | int i => cases n
  | none => exact .inr (by show kitB "NoneType" "int" = _; decide +kernel)
  | str x => exact .inr (by show kitB "str" "int" = _; decide +kernel)
  | list x => exact .inr (by show kitB "list" "int" = _; decide +kernel)
  | tuple x => exact .inr (by show kitB "tuple" "int" = _; decide +kernel)
  | dict x => exact .inr (by show kitB "dict" "int" = _; decide +kernel)
theorem Dx.int_of {a0 : Addr → Prop} {H : Hp} {v : V} {d : PyData} (h : Dx a0 H v d) (n : isIntD d = true) : ∃ i, d = .int i ∧ v = .int i := by
  cases h with
  | int i => exact ⟨i, rfl, rfl⟩
  | _ => cases n
end RS
namespace RS
open PySem L2
/-! ### is_closed of any value -/
def inD (n : Nat) : PyData → Bool
  | .int i => decide (0 ≤ i) && decide (i < (n : Int))
  | _ => false
def natsD (M : List Nat) : List PyData := M.map fun x : Nat => .int (x : Int)
/-- an ascending list of different numbers below n -/
def AscD (n : Nat) (d : PyData) : Prop := ∃ M : List Nat, d = .list (natsD M) ∧ M.Pairwise (· < ·) ∧ ∀ x ∈ M, x < n
def lenD : PyData → Nat
  | .list ds => ds.length
  | _ => 0
theorem natsD_inj {M N : List Nat} (h : natsD M = natsD N) : M = N := List.map_inj_right (fun a b h => by
  have := PyData.int.inj h
  omega) |>.mp h
theorem all_in {a0 : Addr → Prop} {H : Hp} {n : Nat} : ∀ {xs : List V} {ds : List PyData}, DxAll a0 H xs ds → ds.all (inD n) = true → ∃ M : List Nat, xs = M.map nV ∧ ds = natsD M ∧ ∀ x ∈ M, x < n
  | _, [], h, _ => by
    cases h
    exact ⟨[], rfl, rfl, fun x hx => nomatch hx⟩
  | _, d :: ds, h, e => by
    cases h with
    | cons h1 h2 =>
      rw [List.all_cons, Bool.and_eq_true] at e
      obtain ⟨M, e1, e2, e3⟩ := all_in h2 e.2
      cases h1 with
      | int i =>
        have e0 := e.1
        unfold inD at e0
        rw [Bool.and_eq_true, decide_eq_true_iff, decide_eq_true_iff] at e0
        refine ⟨i.toNat :: M, ?_, ?_, fun x hx => ?_⟩
        · rw [e1, List.map_cons]
          unfold nV
          rw [Int.toNat_of_nonneg e0.1]
        · rw [e2]
          show _ = PyData.int ((i.toNat : Nat) : Int) :: natsD M
          rw [Int.toNat_of_nonneg e0.1]
        · rcases List.mem_cons.mp hx with rfl | hx
          · omega
          · exact e3 x hx
      | _ => exact absurd e.1 Bool.false_ne_true
theorem asc_all {n : Nat} {ds : List PyData} (h : AscD n (.list ds)) : ds.all (inD n) = true := by
  obtain ⟨M, e, _, hl⟩ := h
  obtain rfl := PyData.list.inj e
  rw [List.all_eq_true]
  intro x hx
  obtain ⟨m, hm, rfl⟩ := List.mem_map.mp hx
  show (decide (0 ≤ (m : Int)) && decide ((m : Int) < (n : Int))) = true
  have := hl m hm
  rw [decide_eq_true (by omega), decide_eq_true (by omega)]
  rfl
theorem kit_noList {d : PyData} (h : ∀ ds, d ≠ .list ds) : kitB (tyN d) "list" = some false := by
  cases d with
  | none => show kitB "NoneType" "list" = _; decide +kernel
  | bool b => show kitB "bool" "list" = _; decide +kernel
  | int i => show kitB "int" "list" = _; decide +kernel
  | str x => show kitB "str" "list" = _; decide +kernel
  | list x => exact absurd rfl (h x)
  | tuple x => show kitB "tuple" "list" = _; decide +kernel
  | dict x => show kitB "dict" "list" = _; decide +kernel
section
variable {P : Program} {w : World} {K : PySem.W.Frag} {mg : Str → Option Value} {base : Heap}
def spAscD : Sp := fun vs H Q _ => ∃ (u : V) (n : Nat) (a0 : Addr → Prop) (d : PyData), vs = [u, .int (n : Int)] ∧ Dx a0 H u d ∧ lenD d ≤ 60 ∧ ∀ r H', (r = true ↔ AscD n d) → Same H H' → Q (.bl r) H'
theorem ok_ascD {f C fI : Addr} {fd fdI : FuncData} (F : Fun K "_are_ascending" "_are_ascending" s_are_ascending f fd) (T : Txt K mg C) (GI : FnOk P w K mg base CX0 1 fI fdI ["value"] (spIsAny K)) (bI : Binds K fdI ["value"] []) (mI : mg "is_integer" = some (.ref fI)) (kI : PySem.W.keepIn K (.ref fI) = true) : FnOk P w K mg base CX0 2 f fd ["value", "many"] spAscD := by
  refine F.ok scAsc (fun vs H Q E h => ?_) (fun cdv A outer s H vs Q E hr h => ?_)
  · obtain ⟨u, n, a0, d, rfl, _⟩ := h
    rfl
  · obtain ⟨u, n, a0, d, rfl, hx, hl, k⟩ := h
    refine ⟨_, (pss_cons (ps_if (pt_not (pt_val (pe_callB call_isi (by rfl) T.isi (by decide +kernel) (pa_cons (pv 0) (pa_cons (pe_bltn (v := .ty "list") (by rfl) T.list (by decide +kernel) rfl) pa_nil))))) (pss_one (ps_ret pe_bl)) pss_nil) (pss_cons (ps_if (pt_not (pt_val (pe_callB (cr_all rfl) (by rfl) T.all (by decide +kernel) (pa_cons (pe_lc (own := [("client", 2)]) (g := gName 2) (tt := tYes) rfl scAsc.nd (pi_list (pv 0)) (blkOk_by (own := [("client", 2)]) (N := (["value", "many", "client"])) (sc := (defScope s_are_ascending)) (by decide +kernel)) (fun _ _ _ _ _ => (pg_name (i := 2) scAsc.nd rfl (Or.inl rfl))) (fun _ _ _ _ _ => pts_nil) (fun _ _ _ _ _ => (pe_and (pe_call GI hr rfl mI kI bI .nil pass0 (pa_cons (pv 2) pa_nil)) (pe_one (pe_chain op_le op_lt pe_int (pv 2) (pv 1)))))) pa_nil)))) (pss_one (ps_ret pe_bl)) pss_nil) (pss_one (ps_ret (pe_cmpR (op_eqD hr.units) (pv 0) (pe_callB (cr_sortedSet rfl) (by rfl) T.sorted (by decide +kernel) (pa_cons (pe_callTy (cr_setL rfl) (by rfl) T.set (by decide +kernel) (pa_cons (pv 0) pa_nil)) pa_nil)) (nomark _)))))), ?_⟩
    have no : (∀ ds, d ≠ .list ds) → ¬ AscD n d := fun h ⟨M, e, _⟩ => h _ e
    cases d with
    | list ds =>
      cases hx with
      | @lst b xs _ nb hb hall =>
        have hxl := hall.len
        have hds : ds.length ≤ 60 := hl
        refine ⟨_, rfl, _, _, _, _, _, rfl, .ty _, .base (.lst hb), kit_ty (r := true) (by decide +kernel), true, rfl, iteF ?_⟩
        refine ⟨_, rfl, b, rfl, ⟨_, SqL.of hb⟩, fun D hD => lc_map (a := b) (xs := xs) ((ds.map (inD n)).map V.bl) (SqL.of hb) hD (by simp [hxl]) (by omega) (fun i x y H1 Q1 hx hy S1 q => ?_) (fun H1 S1 h1 => ?_)⟩
        · obtain ⟨d, hd, hdx⟩ := hall.at hx
          have ey : y = .bl (inD n d) := by
            rw [List.getElem?_map, List.getElem?_map, hd] at hy
            exact (Option.some.inj hy).symm
          rw [ey] at q
          by_cases hi : isIntD d = true
          · obtain ⟨g, rfl, rfl⟩ := hdx.int_of hi
            refine ⟨rfl, _, rfl, _, rfl, .inl ⟨g, rfl, true, rfl, iteT ?_⟩⟩
            by_cases h0 : 0 ≤ g
            · refine ⟨_, rfl, _, _, rfl, rfl, _, rfl, iteTb (decide_eq_true (by omega)) ?_⟩
              refine ⟨_, rfl, _, _, rfl, rfl, ?_⟩
              have e : inD n (.int g) = decide (g < (n : Int)) := by
                show (decide (0 ≤ g) && decide (g < (n : Int))) = _
                rw [decide_eq_true h0, Bool.true_and]
              rw [e] at q
              exact q H1 (Same.refl H1)
            · refine ⟨_, rfl, _, _, rfl, rfl, _, rfl, iteFb (decide_eq_false (by omega)) ?_⟩
              have e : inD n (.int g) = false := by
                show (decide (0 ≤ g) && decide (g < (n : Int))) = _
                rw [decide_eq_false h0, Bool.false_and]
              rw [e] at q
              exact q H1 (Same.refl H1)
          · have hi : isIntD d = false := by simpa using hi
            refine ⟨rfl, _, rfl, _, rfl, .inr ⟨(hdx.same S1).odd hi, false, rfl, iteF ?_⟩⟩
            have e : inD n d = false := by
              cases d with
              | int i => cases hi
              | _ => rfl
            rw [e] at q
            exact q H1 (Same.refl H1)
        cases hc : ds.all (inD n) with
        | false =>
          refine ⟨D, _, rfl, SqL.of h1, _, rfl, iteTb (by rw [List.all_map]; simpa using hc) ?_⟩
          refine k false _ ⟨fun h => (by cases h), fun h => ?_⟩ S1
          rw [asc_all h] at hc
          cases hc
        | true =>
          refine ⟨D, _, rfl, SqL.of h1, _, rfl, iteFb (by rw [List.all_map]; simpa using hc) ?_⟩
          obtain ⟨M, rfl, rfl, hin⟩ := all_in hall hc
          have hM : M.length ≤ 60 := by rw [List.length_map] at hxl; omega
          refine ⟨_, rfl, _, rfl, b, (M.map fun n : Nat => (n : Int)), rfl, SqL.of (by rw [S1 _ _ hb, nV_ints]), by rw [List.length_map]; omega, fun p c hp hc => ?_⟩
          rw [List.length_map] at hc
          refine ⟨p, _, _, rfl, upd_same, by omega, fun ns q h2 h3 h4 hq => ?_⟩
          have S3 := S1.trans ((same_new hp).trans (same_new (o := .lst (ns.map V.int)) hq))
          refine ⟨_, _, list_dp (SqL.of (by rw [S3 _ _ hb, nV_ints])), list_dp (SqL.of upd_same), PySem.W.ke_shaped_ints _, PySem.W.ke_shaped_ints _, ?_⟩
          rw [list_eqv]
          refine k _ _ ?_ S3
          rw [decide_eq_true_iff]
          constructor
          · intro e
            refine ⟨M, rfl, ?_, hin⟩
            have : (M.map fun n : Nat => (n : Int)).Pairwise (· < ·) := e ▸ h2
            rw [List.pairwise_map] at this
            exact this.imp fun h => by omega
          · intro ⟨N, e, hp, _⟩
            have e := natsD_inj (PyData.list.inj e)
            subst e
            exact (asc_eq h2 hp fun k => by rw [h3 k, decide_eq_true_iff]).symm
    | _ =>
      refine ⟨_, rfl, _, _, _, _, _, rfl, .ty _, hx.ty, kit_ty (r := false) (kit_noList fun ds e => by cases e), false, rfl, iteT ?_⟩
      exact k false H ⟨fun h => (by cases h), fun h => (no (fun ds e => by cases e) h).elim⟩ (Same.refl H)
end
end RS
namespace RS
open PySem L2
section
variable {P : Program} {w : World} {K : PySem.W.Frag} {mg : Str → Option Value} {base : Heap}
theorem ones : ∀ l : List Nat, (l.map fun _ => 1).sum = l.length
  | [] => rfl
  | x :: l => by rw [List.map_cons, List.sum_cons, ones l, List.length_cons, Nat.add_comm]
theorem left_eq {T : List (List Int)} {M ks : List Nat} (hl : Left T M ks) (he : stepC T ks = ks) (hn : M.Nodup) : (ks = M ↔ ClosedS T M) := by
  constructor
  · intro e
    rw [← e]
    exact step_closed he
  · intro c
    have hs := hl.all M c hn fun x h => h
    refine hl.sub.eq_of_length ?_
    have h1 := hl.sub.length_le
    have h2 : M.length ≤ ks.length := by
      have := sum_sub (fun _ => 1) hn hs
      rwa [ones, ones] at this
    omega
theorem scIsC : FnScope ["rule", "starts", "value"] ["rule", "starts", "value"] (defScope s_is_closed) := ⟨rfl, rfl, rfl, by decide +kernel, rfl, by decide +kernel, by decide +kernel⟩
end
end RS
namespace RS
open PySem L2
/-- an ascending list of clients that form a closed set -/
def CloD (T : List (List Int)) (n : Nat) (d : PyData) : Prop := ∃ M : List Nat, d = .list (natsD M) ∧ M.Pairwise (· < ·) ∧ (∀ x ∈ M, x < n) ∧ ClosedS T M
theorem dx_nats {a0 : Addr → Prop} {H : Hp} : ∀ {M : List Nat} {xs : List V}, DxAll a0 H xs (natsD M) → xs = M.map nV
  | [], _, h => by cases h; rfl
  | m :: M, _, h => by
    cases h with
    | cons h1 h2 =>
      cases h1
      rw [dx_nats h2]
      rfl
theorem asc_len {M : List Nat} {n : Nat} (hp : M.Pairwise (· < ·)) (hl : ∀ x ∈ M, x < n) : M.length ≤ n := by
  have hn : M.Nodup := hp.imp fun h => by omega
  have := sum_sub (fun _ => 1) (M := M) (ks := List.range n) hn fun x hx => List.mem_range.mpr (hl x hx)
  rwa [ones, ones, List.length_range] at this
section
variable {P : Program} {w : World} {K : PySem.W.Frag} {mg : Str → Option Value} {base : Heap}
def spIsCD (C : Addr) : Sp := fun vs H Q _ => ∃ (p g t o b : Addr) (u : V) (gs : List Int) (m : Nat) (bs : List Int) (a0 : Addr → Prop) (d : PyData), vs = [.ref p, .ref b, u] ∧ RuleAt C H p g t o gs (.rep m) ∧ H b = some (.lst (bs.map V.int)) ∧ 1 ≤ bs.length ∧ bs.length ≤ 40 ∧ Dx a0 H u d ∧ lenD d ≤ 60 ∧
  ∀ r H', (r = true ↔ CloD (tabOf gs m bs) bs.length d) → Same H H' → Q (.bl r) H'
theorem ok_isCD {f C fC fT fG fA : Addr} {fd fdC fdT fdG fdA : FuncData} (F : Fun K "is_closed" "is_closed" s_is_closed f fd) (T : Txt K mg C) (GC : FnOk P w K mg base CX0 3 fC fdC ["rule", "starts"] (spCkL C)) (bC : Binds K fdC ["rule", "starts"] []) (mC : mg "_check_clients" = some (.ref fC)) (kC : PySem.W.keepIn K (.ref fC) = true)
    (GT : FnOk P w K mg base CX0 5 fT fdT ["rule", "starts"] (spTab C)) (bT : Binds K fdT ["rule", "starts"] []) (mT : mg "_residue_table" = some (.ref fT)) (kT : PySem.W.keepIn K (.ref fT) = true)
    (GG : FnOk P w K mg base CX0 1 fG fdG ["table", "clients"] spGC) (bG : Binds K fdG ["table", "clients"] []) (mG : mg "_greatest_closed" = some (.ref fG)) (kG : PySem.W.keepIn K (.ref fG) = true)
    (GA : FnOk P w K mg base CX0 2 fA fdA ["value", "many"] spAscD) (bA : Binds K fdA ["value", "many"] []) (mA : mg "_are_ascending" = some (.ref fA)) (kA : PySem.W.keepIn K (.ref fA) = true) :
    FnOk P w K mg base CX0 6 f fd ["rule", "starts", "value"] (spIsCD C) := by
  refine F.ok scIsC (fun vs H Q E h => ?_) (fun cdv A outer s H vs Q E hr h => ?_)
  · obtain ⟨p, g, t, o, b, u, gs, m, bs, a0, d, rfl, _⟩ := h
    rfl
  · obtain ⟨p, g, t, o, b, u, gs, m, bs, a0, d, rfl, R, hb, h1, h40, hx, hl, k⟩ := h
    have hr1 := hr.mono (show 1 ≤ 5 by decide)
    have hm2 : m ≤ gs.length := R.okT.2
    have hg20 := R.okG.1
    refine ⟨_, (pss_cons (ps_expr (pe_call GC (hr.mono (by decide)) rfl mC kC bC .nil pass0 (pa_cons (pv 0) (pa_cons (pv 1) pa_nil)))) (pss_cons (ps_if (pt_not (pt_val (pe_call GA (hr.mono (by decide)) rfl mA kA bA .nil pass0 (pa_cons (pv 2) (pa_cons (pe_callB call_len_seq (by rfl) T.len (by decide +kernel) (pa_cons (pv 1) pa_nil)) pa_nil))))) (pss_one (ps_ret pe_bl)) pss_nil) (pss_one (ps_ret (pe_cmpR (op_eqD hr.units) (pe_call GG hr1 rfl mG kG bG .nil pass0 (pa_cons (pe_call GT hr rfl mT kT bT .nil pass0 (pa_cons (pv 0) (pa_cons (pv 1) pa_nil))) (pa_cons (pv 2) pa_nil))) (pv 2) (nomark _)))))), ?_⟩
    refine ⟨_, rfl, _, rfl, p, g, t, o, b, gs, m, bs, rfl, R, hb, h1, h40, fun H1 S1 => ?_⟩
    refine ⟨_, rfl, _, rfl, b, _, rfl, .inl (SqL.of (S1 _ _ hb)), u, bs.length, a0, d, by rw [List.length_map]; rfl, hx.same S1, hl, fun r H2 hr2 S2 => ⟨r, rfl, ?_⟩⟩
    have S12 := S1.trans S2
    cases r with
    | false =>
      refine iteT (k false _ ⟨fun h => (by cases h), fun h => ?_⟩ S12)
      obtain ⟨M, e1, e2, e3, _⟩ := h
      exact hr2.mpr ⟨M, e1, e2, e3⟩
    | true =>
      refine iteF ?_
      obtain ⟨M, rfl, hpw, hlt⟩ := hr2.mp rfl
      have hM := asc_len hpw hlt
      have hn : M.Nodup := hpw.imp fun h => by omega
      cases hx with
      | @lst v xs _ nv hv hall =>
      obtain rfl := dx_nats hall
      refine ⟨_, rfl, _, rfl, p, g, t, o, b, gs, m, bs, rfl, R.mono S12, S12 _ _ hb, by omega, fun tb ts H3 htb S3 htb3 hL => ?_⟩
      have S13 := S12.trans S3
      have hTl : (tabOf gs m bs).length = bs.length := by unfold tabOf; rw [List.length_map]
      refine ⟨_, rfl, tb, v, ts, tabOf gs m bs, M, rfl, htb3, hL, S13 _ _ hv, fun x hx => by rw [hTl]; exact hlt x hx, by omega, tab_rows (by omega), fun ks q H4 hq S4 hleft hst hq4 => ?_⟩
      have S14 := S13.trans S4
      refine ⟨_, rfl, _, _, list_dp (SqL.of (by rw [hq4, nV_ints])), list_dp (SqL.of (by rw [S14 _ _ hv, nV_ints])), PySem.W.ke_shaped_ints _, PySem.W.ke_shaped_ints _, ?_⟩
      rw [list_eqv]
      refine k _ H4 ?_ S14
      rw [decide_eq_true_iff]
      constructor
      · intro e
        have e := List.map_inj_right (fun a b h => by omega) |>.mp e
        exact ⟨M, rfl, hpw, hlt, (left_eq hleft hst hn).mp e⟩
      · intro ⟨N, e, _, _, hc⟩
        have e := natsD_inj (PyData.list.inj e)
        subst e
        rw [(left_eq hleft hst hn).mpr hc]
end
end RS
/-! ### a list against the empty list; len in a comprehension's block -/
namespace L2
open PySem PySem.Spec PyProof.Rows
section
variable {X : Cx}
/-- a list, held against the empty list -/
def rNilB (K : PySem.W.Frag) (f : Bool → Bool) : R2 := fun x y H Q => ∃ a b xs, x = .ref a ∧ y = .ref b ∧ SqL K H a xs ∧ SqL K H b [] ∧ Q (.bl (f xs.isEmpty)) H
theorem op_eqNil (hu : X.A.units + 64 < cLine) : OpR X (compareOp .Eq) (rNilB X.K id) := by
  intro pins s σ H x y v u Q I rx ry h
  obtain ⟨a, b, xs, rfl, rfl, ha, hb, q⟩ := h
  cases xs with
  | nil => exact op_eqD hu pins s σ H _ _ v u Q I rx ry ⟨.list [], .list [], .lst ha .nil, .lst hb .nil, rfl, rfl, q⟩
  | cons z r =>
    cases rx
    cases ry
    obtain ⟨its, r1, h1, _⟩ := I.list ha
    obtain ⟨its2, r2, h2, _⟩ := I.list hb
    cases r2
    have e1 := r1.length
    refine SeqAt.eq_list_lengthsAt h1.isList h2.isList ?_ (by omega) ⟨.bl _, H, I, rfl, q⟩
    rw [List.size_toArray, ← e1]
    rfl
theorem op_neNil (hu : X.A.units + 64 < cLine) : OpR X (compareOp .NotEq) (rNilB X.K not) := by
  intro pins s σ H x y v u Q I rx ry h
  obtain ⟨a, b, xs, rfl, rfl, ha, hb, q⟩ := h
  cases xs with
  | nil => exact op_neD hu pins s σ H _ _ v u Q I rx ry ⟨.list [], .list [], .lst ha .nil, .lst hb .nil, rfl, rfl, q⟩
  | cons z r =>
    cases rx
    cases ry
    obtain ⟨its, r1, h1, _⟩ := I.list ha
    obtain ⟨its2, r2, h2, _⟩ := I.list hb
    cases r2
    have e1 := r1.length
    refine SeqAt.RcNeAt.lists_lengths h1.isList h2.isList ?_ (by omega) X.prog X.w _ _ ⟨.bl _, H, I, rfl, q⟩
    rw [List.size_toArray, ← e1]
    rfl
def rLenK (K : PySem.W.Frag) : List V → Hp → VK → Prop := fun xs H Q => ∃ p ys, xs = [V.ref p] ∧ (SqL K H p ys ∨ SqT K H p ys) ∧ Q (.int (ys.length : Int)) H
theorem pe_lenK {e : Expr} {te : TE} {p pos : Pos} (K : PySem.W.Frag) (hK : X.K = K) (hg : Gl X "len") (hm : X.mg "len" = none) (ha : PE X e te) (hs : starEach [e] X.env = (false, eval e X.env) :: starEach [] X.env := by rfl) : PE X (.Call (.Name "len" p) [e] [] pos) (tCB (rLenK K) (tCons te tNil)) := by
  subst hK
  exact pe_callB (r := rLenK X.K) call_len_seq hg hm (by decide +kernel) (pa_cons ha pa_nil hs) (he := hs)
end
end L2
namespace RS
open PySem L2
/-- isinstance(x, int), isinstance(x, bool) -/
def intK : PyData → Bool
  | .int _ => true
  | .bool _ => true
  | _ => false
def boolK : PyData → Bool
  | .bool _ => true
  | _ => false
theorem kit_int (d : PyData) : kitB (tyN d) "int" = some (intK d) := by
  cases d with
  | none => show kitB "NoneType" "int" = some false; decide +kernel
  | bool x => show kitB "bool" "int" = some true; decide +kernel
  | int x => show kitB "int" "int" = some true; decide +kernel
  | str x => show kitB "str" "int" = some false; decide +kernel
  | list x => show kitB "list" "int" = some false; decide +kernel
  | tuple x => show kitB "tuple" "int" = some false; decide +kernel
  | dict x => show kitB "dict" "int" = some false; decide +kernel
theorem kit_bool (d : PyData) : kitB (tyN d) "bool" = some (boolK d) := by
  cases d with
  | none => show kitB "NoneType" "bool" = some false; decide +kernel
  | bool x => show kitB "bool" "bool" = some true; decide +kernel
  | int x => show kitB "int" "bool" = some false; decide +kernel
  | str x => show kitB "str" "bool" = some false; decide +kernel
  | list x => show kitB "list" "bool" = some false; decide +kernel
  | tuple x => show kitB "tuple" "bool" = some false; decide +kernel
  | dict x => show kitB "dict" "bool" = some false; decide +kernel
theorem selTo_nil {sel : Nat → Option V} {n : Nat} (h : ∀ i, i < n → sel i = none) : selTo sel n = [] := by
  induction n with
  | zero => rfl
  | succ n ih =>
    rw [selTo_succ, ih fun i hi => h i (by omega), h n (by omega)]
    rfl
theorem selTo_some {sel : Nat → Option V} {n i : Nat} {y : V} (hi : i < n) (h : sel i = some y) : (selTo sel n).isEmpty = false := by
  have : y ∈ selTo sel n := List.mem_filterMap.mpr ⟨i, List.mem_range.mpr hi, h⟩
  cases hs : selTo sel n with
  | nil => rw [hs] at this; cases this
  | cons => rfl
/-- what is empty when nothing is picked -/
theorem sel_empty {ds : List PyData} {xs : List V} (hl : xs.length = ds.length) (f : PyData → Bool) {sel : Nat → Option V} (hs : ∀ i d x, ds[i]? = some d → xs[i]? = some x → sel i = if f d = true then none else some x) :
    (selTo sel xs.length).isEmpty = ds.all f := by
  cases hc : ds.all f with
  | true =>
    rw [List.all_eq_true] at hc
    rw [selTo_nil fun i hi => ?_]
    · rfl
    · have h1 : ds[i]? = some ds[i] := List.getElem?_eq_getElem (by omega)
      have h2 : xs[i]? = some xs[i] := List.getElem?_eq_getElem hi
      rw [hs i _ _ h1 h2, if_pos (hc _ (List.getElem_mem (by omega)))]
  | false =>
    rw [List.all_eq_false] at hc
    obtain ⟨d, hd, hf⟩ := hc
    obtain ⟨i, hi, rfl⟩ := List.getElem_of_mem hd
    have h2 : xs[i]? = some (xs[i]'(by omega)) := List.getElem?_eq_getElem (by omega)
    exact selTo_some (i := i) (by omega) (hs i _ _ (List.getElem?_eq_getElem hi) h2 ▸ if_neg hf)
/-- ints among values -/
theorem all_ints {a0 : Addr → Prop} {H : Hp} : ∀ {xs : List V} {ds : List PyData}, DxAll a0 H xs ds → ds.all isIntD = true → ∃ ns : List Int, xs = ns.map V.int ∧ ds = ns.map PyData.int
  | _, [], h, _ => by
    cases h
    exact ⟨[], rfl, rfl⟩
  | _, d :: ds, h, e => by
    cases h with
    | cons h1 h2 =>
      rw [List.all_cons, Bool.and_eq_true] at e
      obtain ⟨ns, rfl, rfl⟩ := all_ints h2 e.2
      obtain ⟨i, rfl, rfl⟩ := h1.int_of e.1
      exact ⟨i :: ns, rfl, rfl⟩
def duN : List Str := ["_law_gaps", "_law_count", "_law_starts_here", "_law_value", "_law_one"]
theorem scDue : FnScope duN ["_law_gaps", "_law_count", "_law_starts_here", "_law_value"] (defScope s_law_due) := ⟨rfl, rfl, rfl, by decide +kernel, rfl, by decide +kernel, by decide +kernel⟩
def spDue : Sp := fun vs H Q _ => ∃ (g b : Addr) (u : V) (gs : List Int) (m : Nat) (bs : List Int) (a0 : Addr → Prop) (d : PyData), vs = [.ref g, .int (m : Int), .ref b, u] ∧ H g = some (.lst (gs.map V.int)) ∧ GapsOk gs ∧ 1 ≤ m ∧ m ≤ gs.length ∧ H b = some (.lst (bs.map V.int)) ∧ bs.length ≤ 40 ∧ Dx a0 H u d ∧ lenD d ≤ 60 ∧
  ∀ r H', (r = true ↔ CloD (tabOf gs m bs) bs.length d) → Same H H' → Q (.bl r) H'
section
variable {P : Program} {w : World} {K : PySem.W.Frag} {mg : Str → Option Value} {base : Heap}
theorem ok_due {f C fC : Addr} {fd fdC : FuncData} (F : Fun K "_law_due" "_law_due" s_law_due f fd) (T : Txt K mg C) (GC : FnOk P w K mg base CX0 2 fC fdC ["_law_gaps", "_law_count", "_law_starts_here", "_law_members"] spClo) (bC : Binds K fdC ["_law_gaps", "_law_count", "_law_starts_here", "_law_members"] []) (mC : mg "_law_closed" = some (.ref fC)) (kC : PySem.W.keepIn K (.ref fC) = true) :
    FnOk P w K mg base CX0 3 f fd ["_law_gaps", "_law_count", "_law_starts_here", "_law_value"] spDue := by
  refine F.ok scDue (fun vs H Q E h => ?_) (fun cdv A outer s H vs Q E hr h => ?_)
  · obtain ⟨g, b, u, gs, m, bs, a0, d, rfl, _⟩ := h
    rfl
  · obtain ⟨g, b, u, gs, m, bs, a0, d, rfl, hg, okG, hm1, hm2, hb, h40, hx, hl, k⟩ := h
    refine ⟨_, (pss_cons (ps_if (pt_not (pt_val (pe_callB call_isi (by rfl) T.isi (by decide +kernel) (pa_cons (pv 3) (pa_cons (pe_bltn (v := .ty "list") (by rfl) T.list (by decide +kernel) rfl) pa_nil))))) (pss_one (ps_ret pe_bl)) pss_nil) (pss_cons (ps_if (pt_cmpR (op_neNil hr.units) (pe_lc (own := [("_law_one", 4)]) (g := gName 4) rfl scDue.nd (pi_list (pv 3)) (blkOk_by (own := [("_law_one", 4)]) (N := duN) (sc := (defScope s_law_due)) (by decide +kernel)) (fun _ _ _ _ _ => (pg_name (i := 4) scDue.nd rfl (Or.inl rfl))) (fun _ _ _ _ _ => pts_one (PW.pt (pw_or (pt_not (pt_val (pe_callB (r := rIsi K) (id := "isinstance") call_isi (by rfl) T.isi (by decide +kernel) (pa_cons (pv 4) (pa_cons (pe_bltn (v := .ty "int") (by rfl) T.int (by decide +kernel) rfl) pa_nil))))) (pw_or1 (pt_val (pe_callB (r := rIsi K) (id := "isinstance") call_isi (by rfl) T.isi (by decide +kernel) (pa_cons (pv 4) (pa_cons (pe_bltn (v := .ty "bool") (by rfl) T.bool (by decide +kernel) rfl) pa_nil)))))))) (fun _ _ _ _ _ => (pv 4))) (pe_lst pa_nil) (nomark _)) (pss_one (ps_ret pe_bl)) pss_nil) (pss_cons (ps_if (PW.pt (pw_or (pt_cmpR (op_neNil hr.units) (pe_lc (own := [("_law_one", 4)]) (g := gName 4) rfl scDue.nd (pi_list (pv 3)) (blkOk_by (own := [("_law_one", 4)]) (N := duN) (sc := (defScope s_law_due)) (by decide +kernel)) (fun _ _ _ _ _ => (pg_name (i := 4) scDue.nd rfl (Or.inl rfl))) (fun _ _ _ _ _ => pts_one (pt_not (pt_chain op_le op_lt pe_int (pv 4) (pe_lenK K (by rfl) (by rfl) T.len (pv 2))))) (fun _ _ _ _ _ => (pv 4))) (pe_lst pa_nil) (nomark _)) (pw_or1 (pt_cmpR (op_neD hr.units) (pv 3) (pe_callB (cr_sortedSet rfl) (by rfl) T.sorted (by decide +kernel) (pa_cons (pe_callTy (cr_setL rfl) (by rfl) T.set (by decide +kernel) (pa_cons (pv 3) pa_nil)) pa_nil)) (nomark _))))) (pss_one (ps_ret pe_bl)) pss_nil) (pss_one (ps_ret (pe_call GC hr rfl mC kC bC .nil pass0 (pa_cons (pv 0) (pa_cons (pv 1) (pa_cons (pv 2) (pa_cons (pv 3) pa_nil)))))))))), ?_⟩
    have no : (∀ ds, d ≠ .list ds) → ¬ CloD (tabOf gs m bs) bs.length d := fun h ⟨M, e, _⟩ => h _ e
    cases d with
    | list ds =>
      cases hx with
      | @lst v xs _ nb hv hall =>
        have hxl := hall.len
        have hds : ds.length ≤ 60 := hl
        refine ⟨_, rfl, _, _, _, _, _, rfl, .ty _, .base (.lst hv), kit_ty (r := true) (by decide +kernel), true, rfl, iteF ?_⟩
        refine ⟨_, rfl, v, rfl, ⟨_, SqL.of hv⟩, fun D hD => lc_sel (a := v) (xs := xs) (fun i : Nat => (ds[i]?).bind fun d => if isIntD d = true then none else xs[i]?) (SqL.of hv) hD (by omega) (fun i x H1 Q1 hi S1 q => ?_) (fun H1 S1 h1 => ?_)⟩
        · obtain ⟨d, hd, hdx⟩ := hall.at hi
          have Dz := hdx.same S1
          have es : ((ds[i]?).bind fun d => if isIntD d = true then none else xs[i]?) = if isIntD d = true then none else some x := by rw [hd, hi]; rfl
          rw [es] at q
          refine ⟨rfl, ?_⟩
          refine ⟨_, rfl, _, _, _, _, _, rfl, .ty _, Dz.ty, kit_ty (r := intK d) (kit_int d), intK d, rfl, ?_⟩
          cases hI : intK d with
          | false =>
            have hn : isIntD d = false := by cases d <;> first | rfl | cases hI
            rw [hn] at q
            exact iteT (iteT ⟨_, rfl, q _ (Same.refl _)⟩)
          | true =>
            refine iteF ⟨_, rfl, _, _, _, _, _, rfl, .ty _, Dz.ty, kit_ty (r := boolK d) (kit_bool d), boolK d, rfl, ?_⟩
            cases hB : boolK d with
            | true =>
              have hn : isIntD d = false := by cases d <;> first | rfl | cases hB
              rw [hn] at q
              exact iteT ⟨_, rfl, q _ (Same.refl _)⟩
            | false =>
              have hy : isIntD d = true := by cases d <;> first | rfl | (cases hI; done) | (cases hB; done)
              rw [hy] at q
              exact iteF (q _ (Same.refl _))
        have em := sel_empty (sel := fun i : Nat => (ds[i]?).bind fun d => if isIntD d = true then none else xs[i]?) hxl isIntD fun i d x h1 h2 => by rw [h1, h2]; rfl
        refine ⟨(by show 0 ≤ sizeLine; decide), fun l hl0 => ?_⟩
        have Sl := same_new (o := .lst []) hl0
        refine ⟨D, l, _, rfl, rfl, SqL.of (Sl _ _ h1), SqL.of upd_same, _, rfl, ?_⟩
        rw [em]
        have S2 := S1.trans Sl
        generalize (upd H1 l (.lst [])) = H2 at S2 ⊢
        clear Sl h1 em S1 hl0
        cases hc : ds.all isIntD with
        | false =>
          refine iteTb (by rfl) (k false _ ⟨fun h => (by cases h), fun h => ?_⟩ S2)
          obtain ⟨M, e, _⟩ := h
          obtain rfl := PyData.list.inj e
          rw [List.all_eq_false] at hc
          obtain ⟨x, hx, hn⟩ := hc
          obtain ⟨y, _, rfl⟩ := List.mem_map.mp hx
          exact absurd rfl hn
        | true =>
          refine iteFb (by rfl) ?_
          obtain ⟨ns, rfl, rfl⟩ := all_ints hall hc
          rw [List.length_map] at hds
          refine ⟨_, rfl, v, rfl, ⟨_, SqL.of (S2 _ _ hv)⟩, fun D hD => lc_sel (a := v) (xs := ns.map V.int) (fun i : Nat => ((ns.map PyData.int)[i]?).bind fun d => if inD bs.length d = true then none else (ns.map V.int)[i]?) (SqL.of (S2 _ _ hv)) hD (by rw [List.length_map]; omega) (fun i x H3 Q3 hi S3 q => ?_) (fun H3 S3 h3 => ?_)⟩
          · obtain ⟨n, hn, rfl⟩ := map_of hi
            have es : (((ns.map PyData.int)[i]?).bind fun d => if inD bs.length d = true then none else (ns.map V.int)[i]?) = if inD bs.length (.int n) = true then none else some (V.int n) := by rw [List.getElem?_map, hn, hi]; rfl
            rw [es] at q
            refine ⟨rfl, ?_⟩
            refine ⟨_, rfl, _, _, rfl, rfl, _, rfl, ?_⟩
            by_cases h0 : 0 ≤ n
            · refine iteTb (decide_eq_true h0) ?_
              refine ⟨_, rfl, b, _, rfl, .inl (SqL.of (S3 _ _ (S2 _ _ hb))), _, _, rfl, rfl, _, rfl, ?_⟩
              rw [List.length_map]
              by_cases h1 : n < (bs.length : Int)
              · have e : inD bs.length (.int n) = true := by
                  show (decide (0 ≤ n) && decide (n < (bs.length : Int))) = true
                  rw [decide_eq_true h0, decide_eq_true h1]
                  rfl
                rw [e] at q
                refine iteFb (by rw [decide_eq_true h1]; rfl) (q _ (Same.refl _))
              · have e : inD bs.length (.int n) = false := by
                  show (decide (0 ≤ n) && decide (n < (bs.length : Int))) = false
                  rw [decide_eq_true h0, decide_eq_false h1]
                  rfl
                rw [e] at q
                exact iteTb (by rw [decide_eq_false h1]; rfl) ⟨_, rfl, q _ (Same.refl _)⟩
            · refine iteFb (decide_eq_false h0) ?_
              have e : inD bs.length (.int n) = false := by
                show (decide (0 ≤ n) && decide (n < (bs.length : Int))) = false
                rw [decide_eq_false h0]
                rfl
              rw [e] at q
              exact ⟨_, rfl, iteTb (by rfl) ⟨_, rfl, q _ (Same.refl _)⟩⟩
          have em := sel_empty (ds := ns.map PyData.int) (sel := fun i : Nat => ((ns.map PyData.int)[i]?).bind fun d => if inD bs.length d = true then none else (ns.map V.int)[i]?) hxl (inD bs.length) fun i d x h1 h2 => by rw [h1, h2]; rfl
          refine ⟨(by show 0 ≤ sizeLine; decide), fun l hl0 => ?_⟩
          have Sl := same_new (o := .lst []) hl0
          refine ⟨D, l, _, rfl, rfl, SqL.of (Sl _ _ h3), SqL.of upd_same, _, rfl, ?_⟩
          rw [em]
          have S4 := (S2.trans S3).trans Sl
          generalize (upd H3 l (.lst [])) = H4 at S4 ⊢
          clear Sl h3 em S3 hl0 S2 hc
          cases hc : (ns.map PyData.int).all (inD bs.length) with
          | false =>
            refine iteTb (by rfl) (iteT (k false _ ⟨fun h => (by cases h), fun h => ?_⟩ S4))
            obtain ⟨M, e, e2, e3, _⟩ := h
            rw [asc_all ⟨M, e, e2, e3⟩] at hc
            cases hc
          | true =>
            refine iteFb (by rfl) ?_
            obtain ⟨M, e1, e2, hin⟩ := all_in hall hc
            have en : ns = M.map fun n : Nat => (n : Int) := by
              have : ns.map V.int = (M.map fun n : Nat => (n : Int)).map V.int := by rw [e1, nV_ints]
              exact List.map_inj_right (fun a b h => V.int.inj h) |>.mp this
            subst en
            clear e1 e2
            rw [List.length_map] at hds
            refine ⟨_, rfl, _, rfl, v, (M.map fun n : Nat => (n : Int)), rfl, SqL.of (S4 _ _ hv), by rw [List.length_map]; omega, fun p c hp hc => ?_⟩
            rw [List.length_map] at hc
            refine ⟨p, _, _, rfl, upd_same, by omega, fun ns q h2 h3 h4 hq => ?_⟩
            have S5 := S4.trans ((same_new hp).trans (same_new (o := .lst (ns.map V.int)) hq))
            refine ⟨_, _, list_dp (SqL.of (S5 _ _ hv)), list_dp (SqL.of upd_same), PySem.W.ke_shaped_ints _, PySem.W.ke_shaped_ints _, _, rfl, ?_⟩
            rw [list_eqv]
            have eD : (M.map fun n : Nat => (n : Int)).map PyData.int = natsD M := by
              unfold natsD
              rw [List.map_map]
              rfl
            by_cases e : (M.map fun n : Nat => (n : Int)) = ns
            · refine iteFb (by rw [decide_eq_true e]; rfl) ?_
              have hpw : M.Pairwise (· < ·) := by
                have : (M.map fun n : Nat => (n : Int)).Pairwise (· < ·) := e ▸ h2
                rw [List.pairwise_map] at this
                exact this.imp fun h => by omega
              refine ⟨_, rfl, _, rfl, _, rfl, _, rfl, g, b, v, gs, m, bs, M, rfl, S5 _ _ hg, okG, hm1, hm2, S5 _ _ hb, by rw [nV_ints]; exact S5 _ _ hv, hin, by omega, fun r H' hr S => k r H' ?_ (S5.trans S)⟩
              rw [hr, eD]
              exact ⟨fun h => ⟨M, rfl, hpw, hin, h⟩, fun ⟨N, e1, _, _, h⟩ => natsD_inj (PyData.list.inj e1) ▸ h⟩
            · refine iteTb (by rw [decide_eq_false e]; rfl) (k false _ ⟨fun h => (by cases h), fun ⟨N, e1, hp2, _⟩ => ?_⟩ S5)
              rw [eD] at e1
              have e1 := natsD_inj (PyData.list.inj e1)
              subst e1
              exact absurd (asc_eq h2 hp2 fun k => by rw [h3 k, decide_eq_true_iff]).symm e
    | _ =>
      refine ⟨_, rfl, _, _, _, _, _, rfl, .ty _, hx.ty, kit_ty (r := false) (kit_noList fun ds e => by cases e), false, rfl, iteT ?_⟩
      exact k false H ⟨fun h => (by cases h), fun h => (no (fun ds e => by cases e) h).elim⟩ (Same.refl H)
end
end RS
namespace RS
open PySem L2
theorem dx_all {a0 : Addr → Prop} {H : Hp} : ∀ M : List Nat, DxAll a0 H (M.map nV) (natsD M)
  | [] => .nil
  | m :: M => .cons (.int _) (dx_all M)
theorem dx_lst {a0 : Addr → Prop} {v : Addr} {H : Hp} {M : List Nat} (n : ¬ a0 v) (h : H v = some (.lst (M.map nV))) : Dx a0 H (.ref v) (.list (natsD M)) := .lst n h (dx_all M)
theorem natsD_len (M : List Nat) : (natsD M).length = M.length := List.length_map _
/-- a member put in twice -/
theorem twice {M : List Nat} {i : Nat} (hi : i < M.length) : ¬ (M.take (i + 1) ++ M.drop i).Pairwise (· < ·) := fun h => by
  have h1 : M[i] ∈ M.take (i + 1) := List.mem_take_iff_getElem.mpr ⟨i, by omega, rfl⟩
  have h2 : M[i] ∈ M.drop i := List.mem_drop_iff_getElem.mpr ⟨0, by omega, by simp⟩
  have := (List.pairwise_append.mp h).2.2 _ h1 _ h2
  omega
theorem cloD_nats {T : List (List Int)} {n : Nat} {M : List Nat} (h : CloD T n (.list (natsD M))) : M.Pairwise (· < ·) := by
  obtain ⟨N, e, hp, _⟩ := h
  exact natsD_inj (PyData.list.inj e) ▸ hp
def dbN : List Str := ["_law_rule", "_law_gaps", "_law_count", "_law_starts_here", "_law_value", "_law_at"]
theorem scDb : FnScope dbN ["_law_rule", "_law_gaps", "_law_count", "_law_starts_here", "_law_value"] (defScope s_law_doubled_right) := ⟨rfl, rfl, rfl, by decide +kernel, rfl, by decide +kernel, by decide +kernel⟩
section
variable {P : Program} {w : World} {K : PySem.W.Frag} {mg : Str → Option Value} {base : Heap}
def spDb (C : Addr) : Sp := fun vs H Q _ => ∃ (p g2 t o g b v : Addr) (gs : List Int) (m : Nat) (bs : List Int) (M : List Nat), vs = [.ref p, .ref g, .int (m : Int), .ref b, .ref v] ∧ RuleAt C H p g2 t o gs (.rep m) ∧ H g = some (.lst (gs.map V.int)) ∧ H b = some (.lst (bs.map V.int)) ∧ 1 ≤ bs.length ∧ bs.length ≤ 20 ∧
  H v = some (.lst (M.map nV)) ∧ M.length ≤ bs.length ∧ ∀ H', Same H H' → Q (.bl true) H'
theorem ok_db {f C fI fD : Addr} {fd fdI fdD : FuncData} (F : Fun K "_law_doubled_right" "_law_doubled_right" s_law_doubled_right f fd) (T : Txt K mg C)
    (GI : FnOk P w K mg base CX0 6 fI fdI ["rule", "starts", "value"] (spIsCD C)) (bI : Binds K fdI ["rule", "starts", "value"] []) (mI : mg "is_closed" = some (.ref fI)) (kI : PySem.W.keepIn K (.ref fI) = true)
    (GD : FnOk P w K mg base CX0 3 fD fdD ["_law_gaps", "_law_count", "_law_starts_here", "_law_value"] spDue) (bD : Binds K fdD ["_law_gaps", "_law_count", "_law_starts_here", "_law_value"] []) (mD : mg "_law_due" = some (.ref fD)) (kD : PySem.W.keepIn K (.ref fD) = true) :
    FnOk P w K mg base CX0 7 f fd ["_law_rule", "_law_gaps", "_law_count", "_law_starts_here", "_law_value"] (spDb C) := by
  refine F.ok scDb (fun vs H Q E h => ?_) (fun cdv A outer s H vs Q E hr h => ?_)
  · obtain ⟨p, g2, t, o, g, b, v, gs, m, bs, M, rfl, _⟩ := h
    rfl
  · obtain ⟨p, g2, t, o, g, b, v, gs, m, bs, M, rfl, R, hg, hb, h1, h20, hv, hM, k⟩ := h
    have hr3 := hr.mono (show 3 ≤ 6 by decide)
    have okG := R.okG
    have okT := R.okT
    refine ⟨_, (pss_cons (ps_if (pt_cmpR (op_neD hr.units) (pe_call GI hr rfl mI kI bI .nil pass0 (pa_cons (pv 0) (pa_cons (pv 3) (pa_cons (pv 4) pa_nil)))) (pe_call GD hr3 rfl mD kD bD .nil pass0 (pa_cons (pv 1) (pa_cons (pv 2) (pa_cons (pv 3) (pa_cons (pv 4) pa_nil))))) (nomark _)) (pss_one (ps_ret pe_bl)) pss_nil) (pss_cons (ps_for PassesOwn.never rfl (pi_range1 rfl T.range (pa_cons (pe_callB call_len_seq (by rfl) T.len (by decide +kernel) (pa_cons (pv 4) pa_nil)) pa_nil)) (pg_name (i := 5) scDb.nd rfl (Or.inl rfl)) (pss_one (ps_if (pt_val (pe_call GI hr rfl mI kI bI .nil pass0 (pa_cons (pv 0) (pa_cons (pv 3) (pa_cons (pe_op op_cat (pe_slice sl_list (pv 4) po_none (po_some (pe_op op_add (pv 5) pe_int))) (pe_slice sl_list (pv 4) (po_some (pv 5)) po_none)) pa_nil))))) (pss_one (ps_ret pe_bl)) pss_nil))) (pss_one (ps_ret pe_bl)))), ?_⟩
    refine ⟨_, rfl, _, rfl, _, rfl, p, g2, t, o, b, .ref v, gs, m, bs, fun _ => False, _, rfl, R, hb, h1, by omega, dx_lst id hv, by show (natsD M).length ≤ 60; rw [natsD_len]; omega, fun r H1 hr1 S1 => ?_⟩
    refine ⟨_, rfl, _, rfl, _, rfl, _, rfl, g, b, .ref v, gs, m, bs, fun _ => False, _, rfl, S1 _ _ hg, okG, okT.1, okT.2, S1 _ _ hb, by omega, dx_lst id (S1 _ _ hv), by show (natsD M).length ≤ 60; rw [natsD_len]; omega, fun r' H2 hr2 S2 => ?_⟩
    have er : r' = r := Bool.eq_iff_iff.mpr (hr2.trans hr1.symm)
    subst er
    refine ⟨_, _, .bl _, .bl _, rfl, rfl, _, rfl, iteFb (by cases r' <;> rfl) ?_⟩
    have S := S1.trans S2
    clear S1 S2 hr1 hr2
    refine ⟨_, rfl, v, _, rfl, .inl (SqL.of (S _ _ hv)), _, rfl, ?_⟩
    rw [List.length_map]
    refine ⟨by omega, by omega, for_range (lo := 0) (n := ((M.length : Int)).toNat) (fun i σ H' => (∃ v5, σ = [some (.ref p), some (.ref g), some (.int (m : Int)), some (.ref b), some (.ref v), v5]) ∧ Same H H') ⟨⟨none, rfl⟩, S⟩ ?_ ?_⟩
    · rintro i σ H3 hi ⟨⟨v5, rfl⟩, S3⟩
      have hiM : i < M.length := by omega
      have hv3 := S3 _ _ hv
      refine ⟨_, rfl, _, rfl, _, rfl, _, rfl, _, _, rfl, rfl, _, rfl, v, _, rfl, SqL.of hv3, fun q1 hq1 => ?_⟩
      rw [show (0 : Int) + (i : Int) + 1 = ((i + 1 : Nat) : Int) from by omega, cut_to, ← List.map_take]
      have T1 := same_new (o := .lst ((M.take (i + 1)).map nV)) hq1
      have h11 := upd_same (H := H3) (a := q1) (o := .lst ((M.take (i + 1)).map nV))
      generalize (upd H3 q1 (.lst ((M.take (i + 1)).map nV))) = H4 at T1 h11 ⊢
      refine ⟨_, rfl, _, rfl, _, rfl, v, _, rfl, SqL.of (T1 _ _ hv3), fun q2 hq2 => ?_⟩
      rw [show (0 : Int) + (i : Int) = (i : Int) from by omega, cut_from _ (by rw [List.length_map]; omega), ← List.map_drop]
      have T2 := same_new (o := .lst ((M.drop i).map nV)) hq2
      have h22 := upd_same (H := H4) (a := q2) (o := .lst ((M.drop i).map nV))
      have h12 := T2 _ _ h11
      generalize (upd H4 q2 (.lst ((M.drop i).map nV))) = H5 at T2 h22 h12 ⊢
      refine ⟨q1, q2, _, _, rfl, rfl, h12, h22, ?_, fun q3 hq3 => ?_⟩
      · rw [List.length_map, List.length_map, List.length_take, List.length_drop]
        exact Nat.le_of_lt (small1000 (by omega))
      rw [← List.map_append]
      have T3 := same_new (o := .lst ((M.take (i + 1) ++ M.drop i).map nV)) hq3
      have h33 := upd_same (H := H5) (a := q3) (o := .lst ((M.take (i + 1) ++ M.drop i).map nV))
      generalize (upd H5 q3 (.lst ((M.take (i + 1) ++ M.drop i).map nV))) = H6 at T3 h33 ⊢
      have S6 := ((S3.trans T1).trans T2).trans T3
      refine ⟨p, g2, t, o, b, .ref q3, gs, m, bs, fun _ => False, _, rfl, R.mono S6, S6 _ _ hb, h1, by omega, dx_lst id h33, ?_, fun r H7 hr7 S7 => ?_⟩
      · show (natsD _).length ≤ 60
        rw [natsD_len, List.length_append, List.length_take, List.length_drop]
        omega
      have er : r = false := by
        cases r with
        | false => rfl
        | true => exact absurd (cloD_nats (hr7.mp rfl)) (twice hiM)
      subst er
      exact ⟨false, rfl, iteF ⟨⟨_, rfl⟩, S6.trans S7⟩⟩
    · rintro σ H3 ⟨⟨v5, rfl⟩, S3⟩
      exact k H3 S3
end
end RS
/-! ### defs that are called where no container is being shown -/
namespace L2
open PySem PySem.Spec PyProof.Rows
section
variable {P : Program} {w : World} {K : PySem.W.Frag} {mg : Str → Option Value} {base : Heap}
/-- a def's promise, kept wherever no list, tuple or dict is being shown -/
structure FnG (P : Program) (w : World) (K : PySem.W.Frag) (mg : Str → Option Value) (base : Heap) (k : Nat) (f : Addr) (fd : FuncData) (ps : List Str) (sp : Sp) : Prop where
  many : ∀ {vs H Q E}, sp vs H Q E → vs.length = ps.length
  go : ∀ {A : Around} {outer : List Env} {s : Shared} {H : Hp} {args : Args} {us : List Value} {vs : List V} {Q : VK} {E : XK}, A.guards = some [] → Room k A → Env0 P w K mg base A outer s H → BindsTo s fd args (ps.zip us) → Vals vs us → sp vs H Q E →
    codeAny (model P w) A (.call (.ref f) args) (CR CX0 outer P w H s Q E) s
/-- by its body, its code object known -/
theorem calm_at {x qual : Str} {st : Stmt} {f : Addr} {N ps : List Str} {k : Nat} {sp : Sp} {oc kV doc pm cdv ct : Value} {od an : Option Addr} {osl : Array (Option Value)} (lk : K.lookup f = some ⟨oc, od, .func (PySem.W.fnOf x qual (defArgs st) (defBody st) (defScope st) .none kV doc pm an cdv ct), osl⟩) (hcd : PySem.W.codeIn K cdv qual = true) (S : FnScope N ps (defScope st)) (many : ∀ {vs H Q E}, sp vs H Q E → vs.length = ps.length)
    (walk : ∀ (A : Around) (outer : List Env) (s : Shared) (H : Hp) (vs : List V) (Q : VK) (E : XK), (A.deeper (envOfC qual (defScope st) s.heap.objs.size f cdv)).guards = some [] → Room k (A.deeper (envOfC qual (defScope st) s.heap.objs.size f cdv)) → sp vs H Q E →
      ∃ t, PSs (cxOf CX0 P w K mg base N qual (defScope st) f cdv A outer s H E).nox (defBody st) t ∧ t { nx := fun _ H' => Q .non H', rt := Q } (start N vs) H) : FnG P w K mg base (k + 1) f (PySem.W.fnOf x qual (defArgs st) (defBody st) (defScope st) .none kV doc pm an cdv ct) ps sp := by
  refine ⟨many, fun {A outer s H args us vs Q E} calm hr e0 hb rv hsp => ?_⟩
  have old : ∀ b o, base.get? b = some o → s.heap.get? b = some o := fun b o e => (e0.bs b o e).1
  have kin := e0.mod.kin.keeps old
  refine codeAny_call_function hr.depth (kin _ _ lk) rfl S.co S.gen rfl (PySem.W.codeRec_of kin hcd) (hb _ _ _ _ (wpAny_newFunctionEnv_cells S.kind (fun q hq => ?_) fun env he s1 made => ?_))
  · exact (S.par q.1 (List.of_mem_zip (a := q.1) (b := q.2) hq).1).imp id fun z => ⟨z, PySem.W.cellsFrom_some _ _ _ (.inl z)⟩
  · subst he
    obtain ⟨t, ht, hq⟩ := walk A outer s H vs Q E calm (hr.deeper _) hsp
    have I := inv_start (CX := CX0) (E := E) (cd := cdv) (f := f) (qual := qual) S hr.hd e0 (many hsp) rv made
    refine ⟨(e0.mod.nolimit.keeps old).keeps made.toInCall.keep, codeAny_func (wpAny_mono (ht.nox.run [] s1 (start N vs) H _ I hq) (fun fl s' told => ?_) fun _ _ z => z)⟩
    match fl, told with
    | .ret _, ⟨v, _, H', J, ru, q⟩ => exact ⟨v, H', J.os, J.bare, J.base, J.hok, ru, q⟩
    | .next, ⟨_, H', J, q⟩ => exact ⟨.non, H', J.os, J.bare, J.base, J.hok, rfl, q⟩
    | .brk, ⟨_, _, _, q⟩ => exact q.elim
    | .cont, ⟨_, _, _, q⟩ => exact q.elim
theorem Fun.calm {x qual : Str} {st : Stmt} {f : Addr} {fd : FuncData} {N ps : List Str} {k : Nat} {sp : Sp} (F : Fun K x qual st f fd) (S : FnScope N ps (defScope st)) (many : ∀ {vs H Q E}, sp vs H Q E → vs.length = ps.length)
    (walk : ∀ (cdv : Value) (A : Around) (outer : List Env) (s : Shared) (H : Hp) (vs : List V) (Q : VK) (E : XK), (A.deeper (envOfC qual (defScope st) s.heap.objs.size f cdv)).guards = some [] → Room k (A.deeper (envOfC qual (defScope st) s.heap.objs.size f cdv)) → sp vs H Q E →
      ∃ t, PSs (cxOf CX0 P w K mg base N qual (defScope st) f cdv A outer s H E).nox (defBody st) t ∧ t { nx := fun _ H' => Q .non H', rt := Q } (start N vs) H) : FnG P w K mg base (k + 1) f fd ps sp := by
  obtain ⟨oc, od, kV, doc, pm, an, cdv, ct, osl, rfl, lk, hcd⟩ := F.ex
  exact calm_at lk hcd S many fun A outer s H vs Q E => walk cdv A outer s H vs Q E
end
section
variable {X : Cx} {k : Nat} {f : Addr} {fd : FuncData} {ps : List Str} {sp : Sp} {ds : List Value} {dvs : List V} {x : Str} {e : Expr} {es : List Expr} {t : TA} {p pos : Pos}
/-- f(e, ..) of such a def -/
theorem pe_calm (calm : X.A.guards = some []) (F : FnG X.prog X.w X.K X.mg X.base k f fd ps sp) (hr : Room k X.A) (hg : Gl X x) (hm : X.mg x = some (.ref f)) (hk : PySem.W.keepIn X.K (.ref f) = true) (hb : Binds X.K fd ps ds) (hd : Vals dvs ds)
    (ha : PA X (e :: es) t) (hdb : (x == ("__debug__" : Str)) = false := by decide) (he : starEach (e :: es) X.env = (false, eval e X.env) :: starEach es X.env := by rfl) (hpl : (backTo pos (starEach es X.env)).any (·.1) = false := by rfl) :
    PE X (.Call (.Name x p) (e :: es) [] pos) (tCall sp dvs E0 t) := by
  refine ⟨fun pins s σ H Q I h => wpAny_Call_Name_kw (ld_glob I hg hm (PySem.W.callWith_K (h₀ := X.base) I.ok.mod.kin hk (thn (ha.run pos pins s σ H _ I h) fun us s1 told => ?_) he hpl) hdb)⟩
  obtain ⟨vs, H1, I1, r, q⟩ := told
  refine ⟨I1.kIn, wpAny_call (codeAny_mono (F.go (args := ⟨us, []⟩) calm hr I1.env0 (hb s1 us I1.kIn ?_) (r.append hd) q) fun out s2 hq => ?_)⟩
  · rw [← (r.append hd).length]
    exact F.many q
  · match out, hq with
    | .error _, hq => exact hq.elim
    | .ok (.ret _), hq => exact I1.after hq
    | .ok .next, hq => exact hq.elim
    | .ok .brk, hq => exact hq.elim
    | .ok .cont, hq => exact hq.elim
end
/-! ### repr of what is read as data -/
section
variable {X : Cx}
def rRepD (K : PySem.W.Frag) : List V → Hp → VK → Prop := fun xs H Q => ∃ (a : Addr) (d : PyData), xs = [.ref a] ∧ Dp K H (.ref a) d ∧ d.showable = true ∧ d.hasDict = false ∧ d.depth ≤ 32 ∧ d.shown.length ≤ sizeLine ∧ Q (.str d.shown) H
theorem call_reprD (calm : X.A.guards = some []) (hu : X.A.units + 64 < cLine) : CallR X (.builtin "repr") (rRepD X.K) := by
  intro pins s σ H xs us Q I r h
  obtain ⟨a, d, rfl, hd, hs, hn, hdp, hl, q⟩ := h
  obtain ⟨u, rfl, ru⟩ := r.one
  obtain ⟨as, ra⟩ := Dp.reads I d _ _ hd ru
  obtain rfl : u = Value.ref a := ru
  refine repr_of_reads' ra hs (fun z => by rw [hn] at z; cases z) calm (by omega) (fun _ _ e => e) (fun h' t tk keep => ?_) hl
  exact ⟨.str _, H, I.kept keep, ⟨t, rfl⟩, q⟩
end
end L2
/-! ### repr of any of the laws' odd values -/
namespace L2
open PySem PySem.Spec PyProof.Rows
/-- v is read as d: plain data, or the empty dict -/
def DpR (K : PySem.W.Frag) (H : Hp) (v : V) (d : PyData) : Prop := Dp K H v d ∨ ∃ a, v = .ref a ∧ H a = some (.dK []) ∧ d = .dict []
theorem DpR.mono {K : PySem.W.Frag} {H H' : Hp} {v : V} {d : PyData} (e : ∀ {v d}, Dp K H v d → Dp K H' v d) (k : ∀ b o, H b = some o → H' b = some o) (h : DpR K H v d) : DpR K H' v d := by
  rcases h with h | ⟨a, h1, h2, h3⟩
  · exact .inl (e h)
  · exact .inr ⟨a, h1, k _ _ h2, h3⟩
/-- what repr is asked of -/
structure ReprOk (d : PyData) : Prop where
  sh : d.showable = true
  dc : d.hasDict = true → d = .dict []
  dp : d.depth ≤ 32
  sz : (∀ i, d ≠ .int i) → d.shown.length ≤ sizeLine
  nt : ∀ i, d = .int i → i.natAbs.log2 < 1920
section
variable {X : Cx}
def rTold (K : PySem.W.Frag) : List V → Hp → VK → Prop := fun xs H Q => ∃ (v : V) (d : PyData), xs = [v] ∧ DpR K H v d ∧ ReprOk d ∧ Q (.str d.shown) H
theorem call_told (calm : X.A.guards = some []) (hu : X.A.units + 64 < cLine) : CallR X (.builtin "repr") (rTold X.K) := by
  intro pins s σ H xs us Q I r h
  obtain ⟨v, d, rfl, hd, ok, q⟩ := h
  obtain ⟨u, rfl, ru⟩ := r.one
  have big : ∀ {a : Addr} {as : List Addr}, u = .ref a → Reads s.heap (.ref a) d as → (d.hasDict = true → sysModules ∉ as) → (∀ i, d ≠ .int i) → wpAny (model X.prog X.w) X.A (call (.builtin "repr") [u]) (EP X pins σ Q) X.xe s := by
    intro a as eu ra hm ni
    subst eu
    refine repr_of_reads' ra ok.sh hm calm (by have := ok.dp; omega) (fun _ _ e => e) (fun h' t tk keep => ?_) (ok.sz ni)
    exact ⟨.str _, H, I.kept keep, ⟨t, rfl⟩, q⟩
  rcases hd with hd | ⟨a, rfl, ha, rfl⟩
  · cases hd with
    | non =>
      obtain rfl : u = Value.none := ru
      exact PySem.P.repr_of_none ⟨.str _, H, I.tok _, ⟨_, rfl⟩, q⟩
    | bl b =>
      obtain rfl : u = Value.bool b := ru
      refine PySem.P.repr_of_bool ⟨.str _, H, I.tok _, ⟨s.toks, ?_⟩, q⟩
      cases b <;> rfl
    | int i =>
      obtain ⟨t, rfl⟩ := ru
      exact PySem.P.repr_of_int (ok.nt i rfl) ⟨.str _, H, I.tok _, ⟨_, rfl⟩, q⟩
    | str z =>
      obtain ⟨t, rfl⟩ := ru
      exact PySem.P.repr_of_str ⟨.str _, H, I.tok _, ⟨_, rfl⟩, q⟩ (ok.sz fun _ z => nomatch z)
    | @lst a xs ds h1 h2 =>
      obtain ⟨as, ra⟩ := Dp.reads I _ _ _ (.lst h1 h2) ru
      obtain rfl : u = Value.ref a := ru
      exact big rfl ra (fun z => by have := ok.dc z; cases this) (fun _ z => nomatch z)
    | @tup a xs ds h1 h2 =>
      obtain ⟨as, ra⟩ := Dp.reads I _ _ _ (.tup h1 h2) ru
      obtain rfl : u = Value.ref a := ru
      exact big rfl ra (fun z => by have := ok.dc z; cases this) (fun _ z => nomatch z)
  · obtain rfl : u = Value.ref a := ru
    obtain ⟨_, nS, vs, kv, o, es, ep, e1, e2, e3, e4, e5, _⟩ := (show ObjOk X.prog X.w H s.heap a (.dK []) from I.hok a _ ha)
    cases kv
    have ees : es.toList = [] := by
      cases h : es.toList with
      | nil => rfl
      | cons z r => rw [h] at e5; cases e5
    have ra : Reads s.heap (.ref a) (.dict []) (a :: [] ++ []) := .dict (kvs := []) e1 e2.1 e3 (by rw [ees]; exact .nil) (by rw [ees]; exact .nil)
    refine big rfl ra (fun _ hm => ?_) (fun _ z => nomatch z)
    simp at hm
    rw [hm] at nS
    simp at nS
end
theorem repr_int {i : Int} (h : i.natAbs.log2 < 1920) : ReprOk (.int i) := ⟨decide_eq_true h, (fun z => by cases z), (by show 0 ≤ 32; decide), (fun z => (z i rfl).elim), fun j e => by cases e; exact h⟩
theorem repr_bool (b : Bool) : ReprOk (.bool b) := ⟨rfl, (fun z => by cases z), (by show 0 ≤ 32; decide), (fun _ => by cases b <;> decide +kernel), fun j e => by cases e⟩
theorem repr_none : ReprOk .none := ⟨rfl, (fun z => by cases z), (by decide), (fun _ => by decide +kernel), fun j e => by cases e⟩
theorem repr_zero : ReprOk (.str "0") := ⟨by decide +kernel, (fun z => by cases z), (by decide), (fun _ => by decide +kernel), fun j e => by cases e⟩
theorem repr_list0 : ReprOk (.list [.int 0]) := ⟨by decide +kernel, (fun z => by cases z), (by decide), (fun _ => by decide +kernel), fun j e => by cases e⟩
theorem repr_dict0 : ReprOk (.dict []) := ⟨by decide +kernel, (fun _ => rfl), (by decide), (fun _ => by decide +kernel), fun j e => by cases e⟩
end L2
/-! ### the law is called where nothing is being shown -/
namespace LamX
open PySem PySem.Spec PyProof.Rows L2
/-- what is tracked as the law begins: the tables, and the script unless it is one of the module's own objects -/
def laid (K : PySem.W.Frag) (T : List Addr) (a : Addr) (o : Obj) (xs : List V) : Hp := fun b =>
  if b ∈ T then some (.tbl #[]) else if b = a ∧ K.lookup a = none then some (.frz o (.lst xs)) else none
section
variable {K : PySem.W.Frag} {T : List Addr} {a b : Addr} {o : Obj} {xs : List V}
theorem laid_tab (h : b ∈ T) : laid K T a o xs b = some (.tbl #[]) := if_pos h
theorem laid_scr (h : a ∉ T) (k : K.lookup a = none) : laid K T a o xs a = some (.frz o (.lst xs)) := (if_neg h).trans (if_pos ⟨rfl, k⟩)
theorem laid_is {u : HO} (h : laid K T a o xs b = some u) : (b ∈ T ∧ u = .tbl #[]) ∨ (b = a ∧ K.lookup a = none ∧ u = .frz o (.lst xs)) := by
  unfold laid at h
  split at h
  · exact .inl ⟨‹_›, (Option.some.inj h).symm⟩
  · split at h
    · exact .inr ⟨‹_ ∧ _›.1, ‹_ ∧ _›.2, (Option.some.inj h).symm⟩
    · cases h
end
/-- what the start of a row gives -/
structure Start (P : Program) (K : PySem.W.Frag) (mg mb : Str → Option Value) (cs : List (Addr × Addr)) (a : Addr) (vs : List Value) (ns : List Int) (s : Shared) : Prop where
  kin : K.In s.heap
  ns1 : s.heap.Ns mainGlobals mg
  ns2 : s.heap.Ns builtinsNs mb
  boot : ∀ x : Str, x ≠ "__name__" → mb x = bootBuiltins x
  free : s.heap.NoLimit
  gens : s.gens = #[]
  tab : ∀ p ∈ cs, s.heap.get? p.2 = some { cls := .none, data := .fields #[] }
  own : ∀ p ∈ cs, K.lookup p.2 = none
  code : ∀ p ∈ cs, PySem.W.CodeHd s.heap p.1 p.2
  bm : ∃ (bm : Addr) (ob : Obj), mg "__builtins__" = some (.ref bm) ∧ bm ≠ builtinsNs ∧ s.heap.get? bm = some ob ∧ ob.cls = .type "module" ∧ ob.dict = some builtinsNs ∧ ob.data = .plain
  scr : s.heap.get? a = some { cls := .type "list", data := .seq vs.toArray }
  who : IntsAre vs ns
  len : ns.length ≤ sizeLine
section
variable {P : Program} {w : World} {K : PySem.W.Frag} {mg mb : Str → Option Value} {cs : List (Addr × Addr)} {a : Addr} {vs : List Value} {ns : List Int} {s : Shared}
theorem Start.tabAt (S : Start P K mg mb cs a vs ns s) {b : Addr} (h : b ∈ cs.map (·.2)) : s.heap.get? b = some { cls := .none, data := .fields #[] } := by
  obtain ⟨p, hp, rfl⟩ := List.mem_map.mp h
  exact S.tab p hp
theorem Start.noT (S : Start P K mg mb cs a vs ns s) : a ∉ cs.map (·.2) := fun h => by
  have e := S.scr.symm.trans (S.tabAt h)
  cases e
/-- nothing else is tracked -/
theorem Start.open' (S : Start P K mg mb cs a vs ns s) {o : Obj} {xs : List V} {b : Addr} {ob : Obj} (e : s.heap.get? b = some ob) (h1 : ∀ zs n, ob.data ≠ .seq zs n) (h2 : ob.data ≠ .fields #[]) : laid K (cs.map (·.2)) a o xs b = none := by
  cases q : laid K (cs.map (·.2)) a o xs b with
  | none => rfl
  | some u =>
    rcases laid_is q with ⟨hb, _⟩ | ⟨rfl, _, _⟩
    · rw [S.tabAt hb] at e
      cases e
      exact (h2 rfl).elim
    · rw [S.scr] at e
      cases e
      exact (h1 _ _ rfl).elim
theorem Start.seen (S : Start P K mg mb cs a vs ns s) {o : Obj} {xs : List V} {b : Addr} {m : Str → Option Value} (h : s.heap.Ns b m) : (hidT s.heap (laid K (cs.map (·.2)) a o xs)).Ns b m := by
  obtain ⟨ob, es, ep, e, d, r⟩ := h
  exact ⟨ob, es, ep, hidT_get e (S.open' e (fun zs n z => by rw [d] at z; cases z) fun z => by rw [d] at z; cases z), d, r⟩
theorem Start.kinT (S : Start P K mg mb cs a vs ns s) {o : Obj} {xs : List V} : K.In (hidT s.heap (laid K (cs.map (·.2)) a o xs)) := fun b ob e => by
  refine hidT_get (S.kin b ob e) ?_
  cases q : laid K (cs.map (·.2)) a o xs b with
  | none => rfl
  | some u =>
    rcases laid_is q with ⟨hb, _⟩ | ⟨rfl, k, _⟩
    · obtain ⟨p, hp, rfl⟩ := List.mem_map.mp hb
      have := S.own p hp
      rw [this] at e
      cases e
    · rw [k] at e
      cases e
theorem Start.tabs (S : Start P K mg mb cs a vs ns s) {o : Obj} {xs : List V} : ∀ p ∈ cs, TabB (hidT s.heap (laid K (cs.map (·.2)) a o xs)) mg p.1 p.2 := fun p hp => by
  have hT := S.tab p hp
  obtain ⟨og, eg, ng, gg, dg, _⟩ := S.ns1
  refine ⟨?_, ?_, fun z => ?_⟩
  · obtain ⟨ob, us, file, tf, flags, tg, inF, text, tt, e1, r1, r2, r3, rest⟩ := S.code p hp
    refine ⟨ob, us, file, tf, flags, tg, inF, text, tt, hidT_get e1 (S.open' e1 (fun zs n z => by rw [r2] at z; cases z) fun z => ?_), r1, r2, r3, rest⟩
    rw [r2] at z
    cases z
    simp at r3
  · obtain ⟨bm, ob, b1, b2, b3, b4, b5, b6⟩ := S.bm
    refine ⟨bm, ob, b1, b2, fun z => ?_, fun z => ?_, hidT_get b3 (S.open' b3 (fun zs n z => by rw [b6] at z; cases z) fun z => by rw [b6] at z; cases z), b4, b5, b6⟩
    · subst z
      rw [gg] at b3
      cases b3
      rw [dg] at b6
      cases b6
    · subst z
      rw [hT] at b3
      cases b3
      cases b6
  · rw [z, hT] at gg
    cases gg
    cases dg
theorem Start.hok (S : Start P K mg mb cs a vs ns s) : HOk P w (laid K (cs.map (·.2)) a { cls := .type "list", data := .seq vs.toArray } (ns.map V.int)) s.heap := fun b u e => by
  rcases laid_is e with ⟨hb, rfl⟩ | ⟨rfl, _, rfl⟩
  · exact S.tabAt hb
  · exact ⟨S.scr, by rw [List.length_map]; exact S.len, vs, _, vals_ints S.who, S.scr⟩
theorem Start.script (S : Start P K mg mb cs a vs ns s) : SqL K (laid K (cs.map (·.2)) a { cls := .type "list", data := .seq vs.toArray } (ns.map V.int)) a (ns.map V.int) := by
  cases k : K.lookup a with
  | none => exact .inl (.inr ⟨_, laid_scr S.noT k⟩)
  | some o =>
    have e := (S.kin a o k).symm.trans S.scr
    cases e
    exact .inr ⟨_, vs.toArray, _, k, rfl, rfl, rfl, by rw [List.size_toArray, S.who.length]; exact S.len, by simpa using vals_ints S.who⟩
theorem law_calm {k : Nat} {fa : Addr} {fd : FuncData} {x : Str} {sp : Sp} (S : Start P K mg mb cs a vs ns s) (hr : Room k callerA)
    (F : ∀ base : Heap, K.In base → base.Ns mainGlobals mg → (∀ p ∈ cs, TabB base mg p.1 p.2) → FnG P w K mg base k fa fd [x] sp) (hbind : ∀ (s : Shared) (u : Value), BindsTo s fd ⟨[u], []⟩ [(x, u)])
    (hsp : ∀ H : Hp, (∀ p ∈ cs, H p.2 = some (.tbl #[])) → SqL K H a (ns.map V.int) → sp [.ref a] H (fun v _ => v = .bl true) fun _ _ _ => False) :
    codeAny (model P w) callerA (.call (.ref fa) ⟨[.ref a], []⟩) (fun r s' => r = .ok (.ret (.bool true)) ∧ OldK s.heap s'.heap ∧ s'.os = s.os ∧ AllBare s'.gens) s := by
  have inT : ∀ p ∈ cs, p.2 ∈ cs.map (·.2) := fun p hp => List.mem_map.mpr ⟨p, hp, rfl⟩
  have e0 : Env0 P w K mg (hidT s.heap (laid K (cs.map (·.2)) a { cls := .type "list", data := .seq vs.toArray } (ns.map V.int))) callerA [] s (laid K (cs.map (·.2)) a { cls := .type "list", data := .seq vs.toArray } (ns.map V.int)) :=
    ⟨rfl, ⟨S.kinT, S.seen S.ns1, ⟨mb, S.seen S.ns2, S.boot⟩, let ⟨mc, h1, h2⟩ := S.free; ⟨mc, S.seen h1, h2⟩⟩, fun b o e => of_hidT e, Nat.le_of_eq (hidT_size _ _), trivial, (fun b hb => nomatch hb), S.hok, .of_eq S.gens⟩
  refine codeAny_mono ((F _ S.kinT (S.seen S.ns1) S.tabs).go (us := [.ref a]) (vs := [.ref a]) rfl hr e0 (hbind s (.ref a)) (.cons rfl .nil) (hsp _ (fun p hp => laid_tab (inT p hp)) S.script)) fun out s' told => ?_
  match out, told with
  | .error _, told => exact told.elim
  | .ok .next, told => exact told.elim
  | .ok .brk, told => exact told.elim
  | .ok .cont, told => exact told.elim
  | .ok (.ret u), ⟨v, H', os, bare, un, hok', ru, q⟩ =>
    have q : v = .bl true := q
    subst q
    obtain rfl : u = Value.bool true := ru
    have kept : ∀ b o, b ∉ cs.map (·.2) → s.heap.get? b = some o → s'.heap.get? b = some o := fun b o nb e => by
      cases q : laid K (cs.map (·.2)) a { cls := .type "list", data := .seq vs.toArray } (ns.map V.int) b with
      | none => exact un.keep b o e q (fun z => nomatch z) (fun z => nomatch z)
      | some u =>
        rcases laid_is q with ⟨hb, _⟩ | ⟨rfl, _, rfl⟩
        · exact absurd hb nb
        · have z := (hok' b _ (un.frzs b _ _ q)).1
          rw [S.scr] at e
          cases e
          exact z
    have more : ∀ p ∈ cs, ∃ m : Array Value, s'.heap.get? p.2 = some { cls := .none, data := .fields m } := fun p hp => by
      obtain ⟨m, z⟩ := un.tbls p.2 #[] (laid_tab (inT p hp))
      exact ⟨_, hok' p.2 _ z⟩
    refine ⟨rfl, ⟨fun b o e => ?_, fun b o e => ?_⟩, os, bare⟩
    · by_cases hb : b ∈ cs.map (·.2)
      · obtain ⟨p, hp, rfl⟩ := List.mem_map.mp hb
        obtain ⟨m, hm⟩ := more p hp
        rw [S.tab p hp] at e
        cases e
        exact .inr (.inl ⟨((S.code p hp).tab (S.tab p hp)).isCodeTable, rfl, #[], m, rfl, by rw [Array.empty_append]; exact hm⟩)
      · exact .inl (kept b o hb e)
    · by_cases hb : b ∈ cs.map (·.2)
      · obtain ⟨p, hp, rfl⟩ := List.mem_map.mp hb
        obtain ⟨m, hm⟩ := more p hp
        exact ⟨_, hm⟩
      · exact ⟨o, kept b o hb e⟩
end
/-- what must be known of the law at the head's heap h -/
def LawCalm (l : PySem.W.OpenLaw) (w : World) (K : PySem.W.Frag) (k n : Nat) (x : Str) (mg : Str → Option Value) (fa : Addr) (h : Heap) : Prop :=
  ∃ (fd : FuncData) (cs : List (Addr × Addr)) (sp : Sp), (∀ p ∈ cs, h.get? p.2 = some { cls := .none, data := .fields #[] } ∧ K.lookup p.2 = none ∧ PySem.W.CodeHd h p.1 p.2) ∧ (∀ (s : Shared) (u : Value), BindsTo s fd ⟨[u], []⟩ [(x, u)]) ∧
    (∀ (H : Hp) (a : Addr) (ns : List Int), ns.length ≤ n → (∀ p ∈ cs, H p.2 = some (.tbl #[])) → SqL K H a (ns.map V.int) → sp [.ref a] H (fun v _ => v = .bl true) fun _ _ _ => False) ∧
    ∀ base : Heap, K.In base → base.Ns mainGlobals mg → (∀ p ∈ cs, TabB base mg p.1 p.2) → FnG l.prog w K mg base k fa fd [x] sp
theorem walk_calm {l : PySem.W.OpenLaw} {n k : Nat} {q : Program} {loose : List Str} {XP : (Str → Option Value) → Heap → Prop} {YP : World → Heap → Prop} {d : DefRec} {K : Params → PySem.W.Frag} {x : Str}
    (hn : l.most = some n) (hn2 : n ≤ sizeLine) (hdf : d.params.defaults = []) (hr : Room k callerA) (hY : ∀ (w : World) (h : Heap), YP w h → (K w.params).In h)
    (F : ∀ (w : World) (mg : Str → Option Value) (fa : Addr) (h : Heap), YP w h → (K w.params).In h → h.Ns mainGlobals mg → mg d.name = some (.ref fa) → XP mg h → LawCalm l w (K w.params) k n x mg fa h) :
    PySem.W.WalkO q loose XP YP l.row.toRowW d [] (fun f vs => PySem.call f vs) := by
  refine Att.attach_callB hn hdf fun w s0 s1 mg mb fa o pm cd doc a vs ns G Y ho hd hcd hmg hobj hints hlen hbits hg => ?_
  obtain ⟨fd, cs, sp, hT, hb, hsp, hF⟩ := F w mg fa _ Y (hY w _ Y) G.T.g hmg G.X
  exact law_calm (mb := mb) ⟨hY w _ Y, G.T.g, G.T.b, G.T.builtins, G.T.nolimit, hg, fun p hp => (hT p hp).1, fun p hp => (hT p hp).2.1, fun p hp => (hT p hp).2.2, G.T.bmain, hobj, hints, Nat.le_trans hlen hn2⟩ hr hF hb fun H hH hS => hsp H a ns hlen hH hS
end LamX
/-! ### repr of values of any kind -/
namespace L2
open PySem PySem.Spec PyProof.Rows
section
variable {P : Program} {w : World} {A : Around} {E : Value → Shared → Prop} {s : Shared}
/-- a list whose items may be dicts: only what its items read must be no sys.modules -/
theorem repr_flat {a : Addr} {ob : Obj} {its : Array Value} {n : Nat} {xs : List PyData} {as : List Addr} {Q : Value → Shared → Prop} (ho : s.heap.get? a = some ob) (hc : ob.cls = .type "list") (hdt : ob.data = .seq its n) (ra : ReadsAll s.heap its.toList xs as)
    (sh : PyData.showableAll xs = true) (far : sysModules ∉ as) (calm : A.guards = some []) (room : A.units + ((PyData.list xs).depth + 1) < cLine) (sz : (PyData.list xs).shown.length ≤ sizeLine)
    (q : ∀ h' t tk, (∀ b o, s.heap.get? b = some o → h'.get? b = some o) → Q (.str (PyData.list xs).shown t) { s with heap := h', toks := tk }) : wpAny (model P w) A (call (.builtin "repr") [.ref a]) Q E s := by
  have szT : (listText (PyData.shownAll xs)).length ≤ sizeLine := by simpa only [PyData.shown] using sz
  obtain ⟨bs, low, items⟩ := ReprAllK.of_readsAll (prog := P) (w := w) ra sh (fun _ hm => far hm) (fun t ht => Nat.le_trans (listText_mem_le ht) szT)
  have na : a ∉ bs := not_mem_of_deeper (Reads.list ho hc hdt ra) (by simp only [PyData.depth]; omega) low
  have S : ShowsBy P w s.heap a (.list xs) "list" "list.__repr__" := by
    refine ⟨F.slot_list_repr.toG, F.slot_list_str, F.slot_list_format, fun s k => ⟨ob, k _ _ ho, hc⟩, fun A E s Q calm room k fin => ?_⟩
    simp only [PyData.depth] at room
    simp only [PyData.shown] at fin
    obtain ⟨l⟩ := its
    cases l with
    | nil =>
      have none : ReadsAll _ [] xs _ := ra
      cases none
      simp only [PyData.shownAll, listText_nil] at fin
      exact call_list_repr_empty ⟨ob, k _ _ ho, hc⟩ (k _ _ ho) hdt (fin s.heap _ _ fun _ _ e => e)
    | cons x l => exact call_list_reprK ho hc hdt na (by simpa using items.length_eq) (fun i y e => items.item i y (by simpa using e)) calm (fun b _ => Clear.nil b) room k fin szT
  exact call_repr_slot (by omega) (S.typeIs s fun _ _ e => e) S.slotRepr (S.call A.in1 E s _ calm (by show A.units + 1 + (PyData.list xs).depth < cLine; omega) (fun _ _ e => e) fun h' t tk k => ⟨_, _, rfl, q h' t tk k⟩)
end
end L2
namespace RS
open PySem PySem.Spec PyProof.Rows L2
def atomD : PyData → Bool
  | .none => true
  | .bool _ => true
  | .int _ => true
  | .str _ => true
  | _ => false
/-- what repr is asked of: values as the law makes them -/
structure Sho (d : PyData) : Prop where
  sh : d.showable = true
  dp : d.depth ≤ 32
  sz : (∀ i, d ≠ .int i) → d.shown.length ≤ sizeLine
  nt : ∀ i, d = .int i → i.natAbs.log2 < 1920
  dc : d.hasDict = true → d = .dict [] ∨ ∃ ds, d = .list ds ∧ ∀ x ∈ ds, x = .dict [] ∨ atomD x = true
theorem Sho.repr {d : PyData} (s : Sho d) (h : d.hasDict = true → d = .dict []) : ReprOk d := ⟨s.sh, h, s.dp, s.sz, s.nt⟩
mutual
theorem Dx.dp {K : PySem.W.Frag} {a0 : Addr → Prop} {H : Hp} : ∀ (d : PyData) (v : V), Dx a0 H v d → d.hasDict = false → Dp K H v d
  | .none, _, h, _ => by cases h; exact .non
  | .bool _, _, h, _ => by cases h; exact .bl _
  | .int _, _, h, _ => by cases h; exact .int _
  | .str _, _, h, _ => by cases h; exact .str _
  | .list ds, _, h, e => by
    cases h with
    | lst n e1 r => exact .lst (SqL.of e1) (DxAll.dp ds _ r (by simpa [PyData.hasDict] using e))
  | .tuple ds, _, h, e => by
    cases h with
    | tup n e1 r => exact .tup (SqT.of e1) (DxAll.dp ds _ r (by simpa [PyData.hasDict] using e))
  | .dict _, _, h, e => by simp [PyData.hasDict] at e
theorem DxAll.dp {K : PySem.W.Frag} {a0 : Addr → Prop} {H : Hp} : ∀ (ds : List PyData) (vs : List V), DxAll a0 H vs ds → PyData.hasDictAll ds = false → DpAll K H vs ds
  | [], _, h, _ => by cases h; exact .nil
  | d :: ds, _, h, e => by
    cases h with
    | cons h1 h2 =>
      have e : d.hasDict = false ∧ PyData.hasDictAll ds = false := by simpa [PyData.hasDictAll] using e
      exact .cons (Dx.dp d _ h1 e.1) (DxAll.dp ds _ h2 e.2)
end
section
variable {X : Cx} {pins : List (Addr × Obj)} {σ : L2.St} {H : Hp} {s : Shared}
theorem flat_read (I : Inv X pins σ H s) {a0 : Addr → Prop} {d : PyData} {v : V} {u : Value} (h : Dx a0 H v d) (r : RelV v u) (f : d = .dict [] ∨ atomD d = true) : ∃ as, Reads s.heap u d as ∧ sysModules ∉ as := by
  cases h with
  | dct na ha =>
    rename_i a
    obtain rfl : u = Value.ref a := r
    obtain ⟨_, nS, vs, kv, o, es, ep, e1, e2, e3, e4, e5, _⟩ := (show ObjOk X.prog X.w H s.heap a (.dK []) from I.hok a _ ha)
    cases kv
    have ees : es.toList = [] := by
      cases h : es.toList with
      | nil => rfl
      | cons z r => rw [h] at e5; cases e5
    refine ⟨_, .dict (kvs := []) e1 e2.1 e3 (by rw [ees]; exact .nil) (by rw [ees]; exact .nil), fun hm => ?_⟩
    simp at hm
    rw [hm] at nS
    simp at nS
  | non => obtain ⟨as, q⟩ := Dp.reads I _ _ _ (.non) r; cases q; exact ⟨_, .none, by simp⟩
  | bl b => obtain ⟨as, q⟩ := Dp.reads I _ _ _ (.bl b) r; cases q; exact ⟨_, .bool _, by simp⟩
  | int i => obtain ⟨as, q⟩ := Dp.reads I _ _ _ (.int i) r; cases q; exact ⟨_, .int _ _, by simp⟩
  | str z => obtain ⟨as, q⟩ := Dp.reads I _ _ _ (.str z) r; cases q; exact ⟨_, .str _ _, by simp⟩
  | lst => exact (f.elim (fun h => by cases h) fun h => by cases h)
  | tup => exact (f.elim (fun h => by cases h) fun h => by cases h)
theorem flat_reads (I : Inv X pins σ H s) {a0 : Addr → Prop} : ∀ (ds : List PyData) (vs : List V) (us : List Value), DxAll a0 H vs ds → Vals vs us → (∀ x ∈ ds, x = .dict [] ∨ atomD x = true) → ∃ as, ReadsAll s.heap us ds as ∧ sysModules ∉ as
  | [], _, _, h, r, _ => by
    cases h
    cases r
    exact ⟨_, .nil, by simp⟩
  | d :: ds, _, _, h, r, f => by
    cases h with
    | cons h1 h2 =>
      cases r with
      | cons r1 r2 =>
        obtain ⟨bs, q2, n2⟩ := flat_reads I ds _ _ h2 r2 fun x hx => f x (List.mem_cons_of_mem _ hx)
        obtain ⟨as, q1, n1⟩ := flat_read I h1 r1 (f _ (List.mem_cons_self ..))
        exact ⟨_, .cons q1 q2, fun hm => (List.mem_append.mp hm).elim n1 n2⟩
def rSho : List V → Hp → VK → Prop := fun xs H Q => ∃ (v : V) (a0 : Addr → Prop) (d : PyData), xs = [v] ∧ Dx a0 H v d ∧ Sho d ∧ Q (.str d.shown) H
theorem call_sho (calm : X.A.guards = some []) (hu : X.A.units + 64 < cLine) : CallR X (.builtin "repr") rSho := by
  intro pins s σ H xs us Q I r h
  obtain ⟨v, a0, d, rfl, hx, ok, q⟩ := h
  cases hd : d.hasDict with
  | false => exact call_told calm hu pins s σ H _ us Q I r ⟨v, d, rfl, .inl (hx.dp d v hd), ok.repr (by rw [hd]; intro h; cases h), q⟩
  | true =>
    rcases ok.dc hd with rfl | ⟨ds, rfl, fl⟩
    · cases hx with
      | dct na ha => exact call_told calm hu pins s σ H _ us Q I r ⟨_, _, rfl, .inr ⟨_, rfl, ha, rfl⟩, ok.repr (fun _ => rfl), q⟩
    · cases hx with
      | @lst a xs _ na ha hall =>
        obtain ⟨u, rfl, ru⟩ := r.one
        obtain rfl : u = Value.ref a := ru
        obtain ⟨its, rv, ⟨o, n, ho, hc, _, hdt⟩, _⟩ := I.list (SqL.of ha)
        obtain ⟨as, ra, far⟩ := flat_reads I ds _ its hall rv fl
        refine repr_flat ho hc hdt ra (by simpa [PyData.showable] using ok.sh) far calm (by have := ok.dp; omega) (ok.sz fun i z => nomatch z) fun h' t tk keep => ?_
        exact ⟨.str _, H, I.kept keep, ⟨t, rfl⟩, q⟩
end
end RS
namespace RS
open PySem PyProof.Rows L2
/-- what stands in the law's lists -/
inductive Leaf : PyData → Prop
  | int (i : Int) (h : i.natAbs ≤ 10 ^ 20) : Leaf (.int i)
  | bool (b : Bool) : Leaf (.bool b)
  | none : Leaf .none
  | zero : Leaf (.str "0")
  | lst0 : Leaf (.list [.int 0])
  | tup0 : Leaf (.tuple [.int 0])
  | dct0 : Leaf (.dict [])
structure LeafOk (x : PyData) : Prop where
  sh : x.showable = true
  dp : x.depth ≤ 1
  wt : x.weight ≤ 100
  ls : x.leavesShort 40 = true
theorem log2_small {n : Nat} (h : n ≤ 10 ^ 20) : n.log2 ≤ 67 := by
  by_cases z : n = 0
  · subst z; decide
  · have e : (10 : Nat) ^ 20 < 2 ^ 68 := by decide
    have : n.log2 < 68 := (Nat.log2_lt z).mpr (Nat.lt_of_le_of_lt h e)
    omega
theorem int_sh {i : Int} (h : i.natAbs ≤ 10 ^ 20) : i.natAbs.log2 < 1920 := by have := log2_small h; omega
theorem Leaf.ok {x : PyData} (h : Leaf x) : LeafOk x := by
  cases h with
  | int i h =>
    have := log2_small h
    refine ⟨decide_eq_true (by omega), (by show 0 ≤ 1; decide), ?_, ?_⟩
    · show (if i == 0 then 0 else i.natAbs.log2 + 1) ≤ 100
      split <;> omega
    · refine decide_eq_true ?_
      have e20 : (10 : Nat) ^ 20 < 10 ^ 21 := by decide
      have e := int_text_length_le10 (a := i) (k := 21) (by decide) (Nat.lt_of_le_of_lt h e20)
      show (Str.ofString (toString i)).length ≤ 40
      rw [PySem.ofString_length]
      omega
  | bool b => exact ⟨rfl, (by show 0 ≤ 1; decide), (by show 0 ≤ 100; decide), rfl⟩
  | none => exact ⟨rfl, (by show 0 ≤ 1; decide), (by show 0 ≤ 100; decide), rfl⟩
  | zero => exact ⟨rfl, (by show 0 ≤ 1; decide), (by decide +kernel), (by decide +kernel)⟩
  | lst0 => exact ⟨(by decide +kernel), (by decide +kernel), (by decide +kernel), (by decide +kernel)⟩
  | tup0 => exact ⟨(by decide +kernel), (by decide +kernel), (by decide +kernel), (by decide +kernel)⟩
  | dct0 => exact ⟨(by decide +kernel), (by decide +kernel), (by decide +kernel), (by decide +kernel)⟩
theorem leaves {ds : List PyData} : (∀ x ∈ ds, Leaf x) → PyData.showableAll ds = true ∧ PyData.depthAll ds ≤ 1 ∧ PyData.weightAll ds ≤ 101 * ds.length ∧ PyData.leavesShortAll 40 ds = true := by
  induction ds with
  | nil => exact fun _ => ⟨by simp [PyData.showableAll], by simp [PyData.depthAll], by simp [PyData.weightAll], by simp [PyData.leavesShortAll]⟩
  | cons x r ih =>
    intro h
    obtain ⟨a, b, c, d⟩ := ih fun y hy => h y (List.mem_cons_of_mem _ hy)
    obtain ⟨e1, e2, e3, e4⟩ := (h x (List.mem_cons_self ..)).ok
    refine ⟨by simp [PyData.showableAll, a, e1], by simp only [PyData.depthAll]; omega, by simp only [PyData.weightAll, List.length_cons]; omega, by simp [PyData.leavesShortAll, d, e4]⟩
theorem line_big : 1000000 ≤ sizeLine := by decide +kernel
theorem shown_room {d : PyData} (hl : d.leavesShort 40 = true) (hw : d.weight ≤ 20000) : d.shown.length ≤ sizeLine := by
  have := PyData.shown_le 40 (by decide) d hl
  have := line_big
  omega
theorem sho_list {ds : List PyData} (hn : ds.length ≤ 60) (h : ∀ x ∈ ds, Leaf x) (hd : PyData.hasDictAll ds = true → ∀ x ∈ ds, x = .dict [] ∨ atomD x = true) : Sho (.list ds) := by
  obtain ⟨a, b, c, d⟩ := leaves h
  refine ⟨by simpa [PyData.showable] using a, by simp only [PyData.depth]; omega, fun _ => shown_room (by simpa [PyData.leavesShort] using d) (by simp only [PyData.weight]; omega), fun i e => (by cases e), fun e => .inr ⟨ds, rfl, hd (by simpa [PyData.hasDict] using e)⟩⟩
theorem sho_tup {ds : List PyData} (hn : ds.length ≤ 60) (h : ∀ x ∈ ds, Leaf x) (hd : PyData.hasDictAll ds = false) : Sho (.tuple ds) := by
  obtain ⟨a, b, c, d⟩ := leaves h
  refine ⟨by simpa [PyData.showable] using a, by simp only [PyData.depth]; omega, fun _ => shown_room (by simpa [PyData.leavesShort] using d) (by simp only [PyData.weight]; omega), fun i e => (by cases e), fun e => ?_⟩
  have : PyData.hasDictAll ds = true := by simpa [PyData.hasDict] using e
  rw [hd] at this
  cases this
theorem sho_none : Sho .none := ⟨rfl, by decide, fun _ => by decide +kernel, fun i e => (by cases e), fun e => by simp [PyData.hasDict] at e⟩
theorem sho_bool (b : Bool) : Sho (.bool b) := ⟨rfl, (by show 0 ≤ 32; decide), fun _ => by cases b <;> decide +kernel, fun i e => (by cases e), fun e => by simp [PyData.hasDict] at e⟩
theorem sho_01 : Sho (.str "01") := ⟨rfl, (by show 0 ≤ 32; decide), fun _ => by decide +kernel, fun i e => (by cases e), fun e => by simp [PyData.hasDict] at e⟩
theorem sho_int {i : Int} (h : i.natAbs ≤ 10 ^ 20) : Sho (.int i) := ⟨decide_eq_true (int_sh h), (by show 0 ≤ 32; decide), fun n => (n i rfl).elim, fun j e => by cases e; exact int_sh h, fun e => by simp [PyData.hasDict] at e⟩
theorem sho_dct : Sho (.dict []) := ⟨by decide +kernel, by decide +kernel, fun _ => by decide +kernel, fun i e => (by cases e), fun _ => .inl rfl⟩
/-- no dict in it -/
theorem noDict_all {ds : List PyData} : (∀ x ∈ ds, x.hasDict = false) → PyData.hasDictAll ds = false := by
  induction ds with
  | nil => exact fun _ => by simp [PyData.hasDictAll]
  | cons x r ih =>
    intro h
    simp [PyData.hasDictAll, h x (List.mem_cons_self ..), ih fun y hy => h y (List.mem_cons_of_mem _ hy)]
theorem nats_leaf {M : List Nat} (h : ∀ x ∈ M, x ≤ 1000) : ∀ x ∈ natsD M, Leaf x := fun x hx => by
  obtain ⟨m, hm, rfl⟩ := List.mem_map.mp hx
  have := h m hm
  have h2 : (1000 : Nat) ≤ 10 ^ 20 := by decide
  exact .int _ (by show (m : Nat) ≤ _; omega)
theorem nats_atom {M : List Nat} : ∀ x ∈ natsD M, atomD x = true := fun x hx => by
  obtain ⟨m, hm, rfl⟩ := List.mem_map.mp hx
  rfl
theorem atom_noDict {x : PyData} (h : atomD x = true) : x.hasDict = false := by cases x <;> first | (simp [PyData.hasDict]; done) | cases h
theorem sho_nats {M : List Nat} (hn : M.length ≤ 60) (h : ∀ x ∈ M, x ≤ 1000) : Sho (.list (natsD M)) :=
  sho_list (by rw [natsD_len]; exact hn) (nats_leaf h) fun _ x hx => .inr (nats_atom x hx)
theorem sho_natT {M : List Nat} (hn : M.length ≤ 60) (h : ∀ x ∈ M, x ≤ 1000) : Sho (.tuple (natsD M)) :=
  sho_tup (by rw [natsD_len]; exact hn) (nats_leaf h) (noDict_all fun x hx => atom_noDict (nats_atom x hx))
/-- one leaf among numbers -/
theorem sho_put {M N : List Nat} {x : PyData} (hn : M.length + 1 + N.length ≤ 60) (hM : ∀ x ∈ M, x ≤ 1000) (hN : ∀ x ∈ N, x ≤ 1000) (hx : Leaf x) : Sho (.list (natsD M ++ [x] ++ natsD N)) := by
  refine sho_list (by rw [List.length_append, List.length_append, natsD_len, natsD_len]; exact hn) (fun y hy => ?_) fun hd y hy => ?_
  · rcases List.mem_append.mp hy with hy | hy
    · rcases List.mem_append.mp hy with hy | hy
      · exact nats_leaf hM y hy
      · rw [List.mem_singleton.mp hy]; exact hx
    · exact nats_leaf hN y hy
  · have hxd : x = .dict [] ∨ atomD x = true := by
      by_cases q : atomD x = true
      · exact .inr q
      · refine .inl ?_
        cases hx with
        | dct0 => rfl
        | lst0 =>
          rw [noDict_all] at hd
          · cases hd
          · intro y hy
            rcases List.mem_append.mp hy with hy | hy
            · rcases List.mem_append.mp hy with hy | hy
              · exact atom_noDict (nats_atom y hy)
              · rw [List.mem_singleton.mp hy]; decide +kernel
            · exact atom_noDict (nats_atom y hy)
        | tup0 =>
          rw [noDict_all] at hd
          · cases hd
          · intro y hy
            rcases List.mem_append.mp hy with hy | hy
            · rcases List.mem_append.mp hy with hy | hy
              · exact atom_noDict (nats_atom y hy)
              · rw [List.mem_singleton.mp hy]; decide +kernel
            · exact atom_noDict (nats_atom y hy)
        | _ => exact absurd rfl q
    rcases List.mem_append.mp hy with hy | hy
    · rcases List.mem_append.mp hy with hy | hy
      · exact .inr (nats_atom y hy)
      · rw [List.mem_singleton.mp hy]; exact hxd
    · exact .inr (nats_atom y hy)
end RS
namespace RS
open PySem L2
/-! ### the law's odd values -/
theorem pe_min2K {X : Cx} {e e2 : Expr} {te te2 : TE} {p pos : Pos} (hc : X.calm = true) (hg : Gl X "min") (hm : X.mg "min" = none) (ha : PE X e te) (hb : PE X e2 te2) (hs2 : starEach [e2] X.env = (false, eval e2 X.env) :: starEach [] X.env := by rfl) (hs : starEach [e, e2] X.env = (false, eval e X.env) :: starEach [e2] X.env := by rfl) (hpl : (backTo pos (starEach [e2] X.env)).any (·.1) = false := by rfl) :
    PE X (.Call (.Name "min" p) [e, e2] [] pos) (tCB (fun xs H Q => ∃ i j, xs = [.int i, .int j] ∧ Q (.int (if j < i then j else i)) H) (tCons te (tCons te2 tNil))) :=
  pe_callB (call_min2 hc) hg hm (by decide +kernel) (pa_cons ha (pa_cons hb pa_nil hs2) hs) (he := hs) (hpl := hpl)
/-- two lists of values, one behind the other -/
theorem DxAll.app {a0 : Addr → Prop} {H : Hp} : ∀ {xs ys : List V} {ds es : List PyData}, DxAll a0 H xs ds → DxAll a0 H ys es → DxAll a0 H (xs ++ ys) (ds ++ es)
  | [], _, [], _, _, h => h
  | _ :: _, _, _ :: _, _, .cons a b, h => .cons a (b.app h)
theorem cut_fromN (xs : List V) (i : Nat) : cutV xs (some (i : Int)) none = xs.drop i := by
  by_cases h : i ≤ xs.length
  · exact cut_from xs h
  · unfold cutV
    rw [HT.sIx_nat, HT.sIx_none, show min i xs.length = xs.length by omega, List.drop_of_length_le (Nat.le_refl _), List.drop_of_length_le (show xs.length ≤ i by omega)]
    simp
/-- a member, with a bool in the place of 0 and 1 -/
def boV (x : Nat) : V := if x = 0 then .bl false else if x = 1 then .bl true else .int (x : Int)
def boD (x : Nat) : PyData := if x = 0 then .bool false else if x = 1 then .bool true else .int (x : Int)
theorem bo_dx {a0 : Addr → Prop} {H : Hp} : ∀ M : List Nat, DxAll a0 H (M.map boV) (M.map boD)
  | [] => .nil
  | m :: M => by
    refine .cons ?_ (bo_dx M)
    unfold boV boD
    by_cases h : m = 0
    · rw [if_pos h, if_pos h]; exact .bl _
    · rw [if_neg h, if_neg h]
      by_cases h1 : m = 1
      · rw [if_pos h1, if_pos h1]; exact .bl _
      · rw [if_neg h1, if_neg h1]; exact .int _
theorem bo_leaf {M : List Nat} (h : ∀ x ∈ M, x ≤ 1000) : ∀ x ∈ M.map boD, Leaf x ∧ atomD x = true := fun x hx => by
  obtain ⟨m, hm, rfl⟩ := List.mem_map.mp hx
  have := h m hm
  have h2 : (1000 : Nat) ≤ 10 ^ 20 := by decide
  unfold boD
  by_cases h : m = 0
  · rw [if_pos h]; exact ⟨.bool _, rfl⟩
  · rw [if_neg h]
    by_cases h1 : m = 1
    · rw [if_pos h1]; exact ⟨.bool _, rfl⟩
    · rw [if_neg h1]; exact ⟨.int _ (by show (m : Nat) ≤ _; omega), rfl⟩
theorem sho_bo {M : List Nat} (hn : M.length ≤ 60) (h : ∀ x ∈ M, x ≤ 1000) : Sho (.list (M.map boD)) :=
  sho_list (by rw [List.length_map]; exact hn) (fun x hx => (bo_leaf h x hx).1) fun _ x hx => .inr (bo_leaf h x hx).2
theorem DxAll.mem {a0 : Addr → Prop} {H : Hp} {xs : List V} {ds : List PyData} (h : DxAll a0 H xs ds) {v : V} (hv : v ∈ xs) : ∃ d ∈ ds, Dx a0 H v d := by
  obtain ⟨i, hi⟩ := List.getElem?_of_mem hv
  obtain ⟨d, hd, hx⟩ := h.at hi
  exact ⟨d, List.mem_of_getElem? hd, hx⟩
theorem new_at {H : Hp} {p : Addr} {o : HO} (_ : H p = none) : upd H p o p = some o := upd_same
theorem ints_dx {a0 : Addr → Prop} {H : Hp} : ∀ ns : List Int, DxAll a0 H (ns.map V.int) (ns.map PyData.int)
  | [] => .nil
  | n :: r => .cons (.int n) (ints_dx r)
theorem sho_ints {ns : List Int} (hn : ns.length ≤ 60) (h : ∀ i ∈ ns, i.natAbs ≤ 10 ^ 20) : Sho (.list (ns.map PyData.int)) :=
  sho_list (by rw [List.length_map]; exact hn) (fun x hx => by
    obtain ⟨i, hi, rfl⟩ := List.mem_map.mp hx
    exact .int _ (h i hi)) fun _ x hx => .inr (by
    obtain ⟨i, hi, rfl⟩ := List.mem_map.mp hx
    rfl)
def chN : List Str := ["_law_source", "_law_members", "_law_size", "_law_at", "_law_odd", "_law_options", "_law_one"]
theorem scChg : FnScope chN ["_law_source", "_law_members", "_law_size"] (defScope s_law_changed) := ⟨rfl, rfl, rfl, by decide +kernel, rfl, by decide +kernel, by decide +kernel⟩
section
variable {P : Program} {w : World} {K : PySem.W.Frag} {mg : Str → Option Value} {base : Heap}
def spChg : Sp := fun vs H Q _ => ∃ (a v : Addr) (n : Nat) (M : List Nat) (b : Nat), vs = [.ref a, .ref v, .int (n : Int)] ∧ Src H a b ∧ b ≤ 50000 ∧ v ≠ a ∧ H v = some (.lst (M.map nV)) ∧ M.length ≤ 20 ∧ (∀ x ∈ M, x < n) ∧ 1 ≤ n ∧ n ≤ 20 ∧
  ∀ u d H', Dx (fun c => H c ≠ none) H' u d → lenD d ≤ 60 → Sho d → Kx a H H' → Src H' a (b + 10) → Q u H'
theorem ok_chg {f C fN fO : Addr} {fd fdN fdO : FuncData} (F : Fun K "_law_changed" "_law_changed" s_law_changed f fd) (T : Txt K mg C)
    (GN : FnOk P w K mg base CX0 1 fN fdN ["_law_source", "_law_bound"] spNext) (bN : Binds K fdN ["_law_source", "_law_bound"] []) (mN : mg "_law_draw" = some (.ref fN)) (kN : PySem.W.keepIn K (.ref fN) = true)
    (GO : FnOk P w K mg base CX0 2 fO fdO ["_law_source", "_law_options"] spOne) (bO : Binds K fdO ["_law_source", "_law_options"] []) (mO : mg "_law_choice" = some (.ref fO)) (kO : PySem.W.keepIn K (.ref fO) = true) :
    FnOk P w K mg base CX0 3 f fd ["_law_source", "_law_members", "_law_size"] spChg := by
  refine F.ok scChg (fun vs H Q E h => ?_) (fun cdv A outer s H vs Q E hr h => ?_)
  · obtain ⟨a, v, n, M, b, rfl, _⟩ := h
    rfl
  · obtain ⟨a, v, n, M, b, rfl, R, hb, nva, hv, hM, hlt, hn1, hn20, k⟩ := h
    have hr1 := hr.mono (show 1 ≤ 2 by decide)
    refine ⟨_, (pss_cons (ps_set (i := 3) scChg.nd rfl (Or.inl rfl) (pe_call GN hr1 rfl mN kN bN .nil pass0 (pa_cons (pv 0) (pa_cons (pe_op op_add (pe_callB call_len_seq (by rfl) T.len (by decide +kernel) (pa_cons (pv 1) pa_nil)) pe_int) pa_nil)))) (pss_cons (ps_set (i := 4) scChg.nd rfl (Or.inl rfl) (pe_call GO hr rfl mO kO bO .nil pass0 (pa_cons (pv 0) (pa_cons (pe_lst (pa_cons (pe_un un_neg pe_int) (pa_cons (pv 2) (pa_cons pe_bl (pa_cons pe_bl (pa_cons pe_non (pa_cons pe_str (pa_cons (pe_tup (pa_cons pe_int pa_nil)) (pa_cons (pe_lst (pa_cons pe_int pa_nil)) (pa_cons pe_dnewK (pa_cons (pe_op op_pow pe_int pe_int) pa_nil))))))))))) pa_nil)))) (pss_cons (ps_set (i := 5) scChg.nd rfl (Or.inl rfl) (pe_lst (pa_cons (pe_revL (pv 1)) (pa_cons (pe_op op_cat (pv 1) (pe_slice sl_list (pv 1) po_none (po_some pe_int))) (pa_cons (pe_callTy call_tuple_of (by rfl) T.tuple (by decide +kernel) (pa_cons (pv 1) pa_nil)) (pa_cons pe_non (pa_cons pe_str (pa_cons pe_dnewK (pa_cons pe_int (pa_cons pe_bl pa_nil)))))))))) (pss_cons (ps_set (i := 5) scChg.nd rfl (Or.inl rfl) (pe_op op_cat (pv 5) (pe_lst (pa_cons (pe_op op_cat (pe_op op_cat (pe_slice sl_list (pv 1) po_none (po_some (pv 3))) (pe_lst (pa_cons (pv 4) pa_nil))) (pe_slice sl_list (pv 1) (po_some (pv 3)) po_none)) (pa_cons (pe_op op_cat (pe_slice sl_list (pv 1) po_none (po_some (pv 3))) (pe_slice sl_list (pv 1) (po_some (pe_op op_add (pv 3) pe_int)) po_none)) pa_nil))))) (pss_cons (ps_expr (pe_bm PySem.F.plainAttrs_list PySem.F.slot_list_append PySem.F.type_list_append mt_append (pv 5) (pa_cons (pe_lc (own := [("_law_one", 6)]) (g := gName 6) (tt := tYes) rfl scChg.nd (pi_list (pv 1)) (blkOk_by (own := [("_law_one", 6)]) (N := chN) (sc := (defScope s_law_changed)) (by decide +kernel)) (fun _ _ _ _ _ => (pg_name (i := 6) scChg.nd rfl (Or.inl rfl))) (fun _ _ _ _ _ => pts_nil) (fun _ _ _ _ _ => (pe_ixK K (by rfl) (pe_lst (pa_cons pe_bl (pa_cons pe_bl (pa_cons (pv 6) pa_nil)))) (pe_min2K rfl (by rfl) T.min (pv 6) pe_int)))) pa_nil))) (pss_one (ps_ret (pe_call GO hr rfl mO kO bO .nil pass0 (pa_cons (pv 0) (pa_cons (pe_op op_cat (pv 5) (pe_lst (pa_cons (pe_callB (cr_sortedSet rfl) (by rfl) T.sorted (by decide +kernel) (pa_cons (pe_callTy (cr_setL rfl) (by rfl) T.set (by decide +kernel) (pa_cons (pe_op op_cat (pv 1) (pe_lst (pa_cons (pe_call GN hr1 rfl mN kN bN .nil pass0 (pa_cons (pv 0) (pa_cons (pv 2) pa_nil))) pa_nil))) pa_nil)) pa_nil)) pa_nil))) pa_nil)))))))))), ?_⟩
    -- what was there before
    obtain ⟨Z, hZ⟩ : ∃ Z : Addr → Prop, Z = fun c => H c ≠ none := ⟨_, rfl⟩
    have Za : Z a := by
      obtain ⟨s0, s1, s2, z, _⟩ := R.ex
      rw [hZ]
      show H a ≠ none
      rw [z]
      intro h
      cases h
    have kz : ∀ {H1 H2 : Hp}, Kx a H1 H2 → ∀ c u, ¬ Z c → H1 c = some u → H2 c = some u := fun k c u n e => k c u (fun e' => n (e' ▸ Za)) e
    have nz : ∀ {H1 : Hp} {p : Addr} {c : Nat}, Kx a H H1 → Src H1 a c → H1 p = none → ¬ Z p := fun {H1 p c} kx R h z => by
      rw [hZ] at z
      exact z (kx.free (R.new h).symm h)
    -- where
    refine ⟨_, rfl, _, rfl, v, _, rfl, .inl (SqL.of hv), _, _, rfl, rfl, a, _, b, rfl, R, by omega, by omega, by rw [List.length_map]; omega, fun at0 H1 g0 g1 kx1 R1 => ?_⟩
    rw [List.length_map] at g1
    obtain ⟨i, rfl⟩ : ∃ i : Nat, at0 = (i : Int) := ⟨at0.toNat, by omega⟩
    have hiM : i ≤ M.length := by omega
    have hv1 := kx1 _ _ nva hv
    clear g0 g1
    -- the odd one
    refine ⟨_, rfl, _, rfl, _, rfl, (by show 1 ≤ sizeLine; decide), fun t0 ht0 => ?_⟩
    refine ⟨(by show 1 ≤ sizeLine; decide), fun l0 hl0 => fun d0 hd0 => ⟨_, _, rfl, rfl, ⟨by decide, by decide, by decide⟩, (by show 10 ≤ sizeLine; decide), fun L hL => ?_⟩⟩
    have S2 := same_new (o := .tup [V.int 0]) ht0
    have h_t := upd_same (H := H1) (a := t0) (o := .tup [V.int 0])
    have nta : ¬ Z t0 := nz kx1 R1 ht0
    generalize (upd H1 t0 (.tup [V.int 0])) = H2 at S2 h_t hl0 hd0 hL ⊢
    have R2 := R1.mono S2
    have S3 := same_new (o := .lst [V.int 0]) hl0
    have h_l := upd_same (H := H2) (a := l0) (o := .lst [V.int 0])
    have nla : ¬ Z l0 := nz (kx1.trans (Kx.of S2)) R2 hl0
    generalize (upd H2 l0 (.lst [V.int 0])) = H3 at S3 h_l hd0 hL ⊢
    have R3 := R2.mono S3
    have S4 := same_new (o := .dK []) hd0
    have h_d := upd_same (H := H3) (a := d0) (o := .dK [])
    have nda : ¬ Z d0 := nz (kx1.trans (Kx.of (S2.trans S3))) R3 hd0
    generalize (upd H3 d0 (.dK [])) = H4 at S4 h_d hL ⊢
    have R4 := R3.mono S4
    have DO : DxAll Z H4 [V.int (-1), .int (n : Int), .bl true, .bl false, .non, .str "0", .ref t0, .ref l0, .ref d0, .int ((10 : Int) ^ (20 : Int).toNat)] [.int (-1), .int (n : Int), .bool true, .bool false, .none, .str "0", .tuple [.int 0], .list [.int 0], .dict [], .int ((10 : Int) ^ (20 : Int).toNat)] :=
      .cons (.int _) (.cons (.int _) (.cons (.bl _) (.cons (.bl _) (.cons .non (.cons (.str _) (.cons (.tup nta (S4 _ _ (S3 _ _ h_t)) (.cons (.int 0) .nil)) (.cons (.lst nla (S4 _ _ h_l) (.cons (.int 0) .nil)) (.cons (.dct nda h_d) (.cons (.int _) .nil)))))))))
    have S5 := same_new (o := .lst [V.int (-1), .int (n : Int), .bl true, .bl false, .non, .str "0", .ref t0, .ref l0, .ref d0, .int ((10 : Int) ^ (20 : Int).toNat)]) hL
    have h_L := upd_same (H := H4) (a := L) (o := .lst [V.int (-1), .int (n : Int), .bl true, .bl false, .non, .str "0", .ref t0, .ref l0, .ref d0, .int ((10 : Int) ^ (20 : Int).toNat)])
    have nLa : L ≠ a := (R4.new hL).symm
    have DO5 := DO.same S5
    have R5 := R4.mono S5
    have hv5 := S5 _ _ (S4 _ _ (S3 _ _ (S2 _ _ hv1)))
    have kx5 := kx1.trans (Kx.of (((S2.trans S3).trans S4).trans S5))
    generalize (upd H4 L (.lst [V.int (-1), .int (n : Int), .bl true, .bl false, .non, .str "0", .ref t0, .ref l0, .ref d0, .int ((10 : Int) ^ (20 : Int).toNat)])) = H5 at S5 h_L DO5 R5 hv5 kx5 ⊢
    refine ⟨a, L, _, b + 1, rfl, R5, by omega, nLa, h_L, by show 0 < 10; decide, by show 10 < 1000; decide, fun x H6 hx kx6 R6 => ?_⟩
    obtain ⟨dx, hdx, Dx6⟩ := (DxAll.kx (kz kx6) _ _ DO5).mem hx
    have lf : Leaf dx := by
      have h2 : (20 : Nat) ≤ 10 ^ 20 := by decide
      simp only [List.mem_cons, List.not_mem_nil, or_false] at hdx
      rcases hdx with rfl | rfl | rfl | rfl | rfl | rfl | rfl | rfl | rfl | rfl
      · exact .int _ (by decide)
      · exact .int _ (by show n ≤ _; omega)
      · exact .bool _
      · exact .bool _
      · exact .none
      · exact .zero
      · exact .tup0
      · exact .lst0
      · exact .dct0
      · exact .int _ (by decide)
    have hv6 := kx6 _ _ nva hv5
    have kxA := kx5.trans kx6
    clear hdx hx DO DO5 S2 S3 S4 S5 h_t h_l h_d h_L R1 R2 R3 R4 R5 ht0 hl0 hd0 hL kx5 kx6 hv5 hv1 nta nla nda nLa kx1 hv R
    -- the options
    refine ⟨_, rfl, v, _, rfl, SqL.of hv6, fun p1 hp1 => ?_⟩
    rw [← List.map_reverse]
    have S1 := same_new (o := .lst (M.reverse.map nV)) hp1
    have n1 : ¬ Z p1 := nz kxA R6 hp1
    have D1 : Dx Z (upd H6 p1 (.lst (M.reverse.map nV))) (.ref p1) (.list (natsD M.reverse)) := dx_lst n1 upd_same
    generalize (upd H6 p1 (.lst (M.reverse.map nV))) = H7 at S1 D1 ⊢
    have R7 := R6.mono S1
    have hv7 := S1 _ _ hv6
    have Dx7 := Dx6.same S1
    have kx7 := kxA.trans (Kx.of S1)
    clear S1 hp1 n1
    refine ⟨_, rfl, _, rfl, _, rfl, v, _, rfl, SqL.of hv7, fun q2 hq2 => ?_⟩
    rw [show (some (1 : Int)) = some ((1 : Nat) : Int) from rfl, cut_to, ← List.map_take]
    have S2 := same_new (o := .lst ((M.take 1).map nV)) hq2
    have h2 := upd_same (H := H7) (a := q2) (o := .lst ((M.take 1).map nV))
    generalize (upd H7 q2 (.lst ((M.take 1).map nV))) = H8 at S2 h2 ⊢
    have R8 := R7.mono S2
    refine ⟨v, q2, _, _, rfl, rfl, S2 _ _ hv7, h2, by rw [List.length_map, List.length_map, List.length_take]; exact Nat.le_of_lt (small1000 (by omega)), fun p2 hp2 => ?_⟩
    rw [← List.map_append]
    have S3 := same_new (o := .lst ((M ++ M.take 1).map nV)) hp2
    have n2 : ¬ Z p2 := nz (kx7.trans (Kx.of S2)) R8 hp2
    have D2 : Dx Z (upd H8 p2 (.lst ((M ++ M.take 1).map nV))) (.ref p2) (.list (natsD (M ++ M.take 1))) := dx_lst n2 upd_same
    generalize (upd H8 p2 (.lst ((M ++ M.take 1).map nV))) = H9 at S3 D2 ⊢
    have S23 := S2.trans S3
    have R9 := R7.mono S23
    have hv9 := S23 _ _ hv7
    have Dx9 := Dx7.same S23
    have kx9 := kx7.trans (Kx.of S23)
    have L2 : DxAll Z H9 [.ref p1, .ref p2] [.list (natsD M.reverse), .list (natsD (M ++ M.take 1))] := .cons (D1.same S23) (.cons D2 .nil)
    clear S2 S3 S23 D1 D2 h2 hp2 hq2 n2 R8 R7 hv7 Dx7 kx7 R6 hv6 Dx6 kxA
    refine ⟨_, rfl, v, _, rfl, .inl ⟨SqL.of hv9, fun p3 hp3 => ?_⟩⟩
    have S1 := same_new (o := .tup (M.map nV)) hp3
    have n3 : ¬ Z p3 := nz kx9 R9 hp3
    have D3 : Dx Z (upd H9 p3 (.tup (M.map nV))) (.ref p3) (.tuple (natsD M)) := .tup n3 upd_same (dx_all M)
    generalize (upd H9 p3 (.tup (M.map nV))) = H10 at S1 D3 ⊢
    have R10 := R9.mono S1
    have hv10 := S1 _ _ hv9
    have Dx10 := Dx9.same S1
    have kx10 := kx9.trans (Kx.of S1)
    have L3 := (L2.same S1).app (.cons D3 .nil)
    clear S1 D3 n3 hp3 R9 hv9 Dx9 kx9 L2
    intro d1 hd1
    have S1 := same_new (o := .dK []) hd1
    have n3 : ¬ Z d1 := nz kx10 R10 hd1
    have D3 : Dx Z (upd H10 d1 (.dK [])) (.ref d1) (.dict []) := .dct n3 upd_same
    generalize (upd H10 d1 (.dK [])) = H11 at S1 D3 ⊢
    have R11 := R10.mono S1
    have hv11 := S1 _ _ hv10
    have Dx11 := Dx10.same S1
    have kx11 := kx10.trans (Kx.of S1)
    have L8 := (L3.same S1).app (.cons .non (.cons (.str "01") (.cons D3 (.cons (.int 5) (.cons (.bl true) .nil)))))
    clear S1 D3 n3 hd1 R10 hv10 Dx10 kx10 L3
    refine ⟨by show 8 ≤ sizeLine; decide, fun o1 ho1 => ?_⟩
    have S1 := same_new (o := .lst [.ref p1, .ref p2, .ref p3, .non, .str "01", .ref d1, .int 5, .bl true]) ho1
    have h1 := upd_same (H := H11) (a := o1) (o := .lst [.ref p1, .ref p2, .ref p3, .non, .str "01", .ref d1, .int 5, .bl true])
    have no1 : o1 ≠ a := (R11.new ho1).symm
    generalize (upd H11 o1 (.lst [V.ref p1, .ref p2, .ref p3, .non, .str "01", .ref d1, .int 5, .bl true])) = H12 at S1 h1 ⊢
    have R12 := R11.mono S1
    have hv12 := S1 _ _ hv11
    have Dx12 := Dx11.same S1
    have kx12 := kx11.trans (Kx.of S1)
    have L12 := L8.same S1
    clear S1 ho1 R11 hv11 Dx11 kx11 L8
    -- two more
    refine ⟨_, rfl, _, rfl, _, rfl, _, rfl, v, _, rfl, SqL.of hv12, fun q1 hq1 => ?_⟩
    rw [cut_to, ← List.map_take]
    have S1 := same_new (o := .lst ((M.take i).map nV)) hq1
    have e1 := upd_same (H := H12) (a := q1) (o := .lst ((M.take i).map nV))
    generalize (upd H12 q1 (.lst ((M.take i).map nV))) = K1 at S1 e1 ⊢
    refine ⟨_, rfl, by show 1 ≤ sizeLine; decide, fun q2 hq2 => ?_⟩
    have S2 := same_new (o := .lst [x]) hq2
    have e2 := upd_same (H := K1) (a := q2) (o := .lst [x])
    have e12 := S2 _ _ e1
    generalize (upd K1 q2 (.lst [x])) = K2 at S2 e2 e12 ⊢
    refine ⟨q1, q2, _, _, rfl, rfl, e12, e2, by simp only [List.length_map, List.length_take, List.length_cons, List.length_nil]; exact Nat.le_of_lt (small1000 (by omega)), fun q3 hq3 => ?_⟩
    have S3 := same_new (o := .lst ((M.take i).map nV ++ [x])) hq3
    have e3 := upd_same (H := K2) (a := q3) (o := .lst ((M.take i).map nV ++ [x]))
    generalize (upd K2 q3 (.lst ((M.take i).map nV ++ [x]))) = K3 at S3 e3 ⊢
    have T3 := (S1.trans S2).trans S3
    clear S1 S2 S3 e1 e2 e12 hq1 hq2 hq3
    refine ⟨_, rfl, _, rfl, _, rfl, v, _, rfl, SqL.of (T3 _ _ hv12), fun q4 hq4 => ?_⟩
    rw [cut_fromN, ← List.map_drop]
    have S4 := same_new (o := .lst ((M.drop i).map nV)) hq4
    have e4 := upd_same (H := K3) (a := q4) (o := .lst ((M.drop i).map nV))
    have e34 := S4 _ _ e3
    generalize (upd K3 q4 (.lst ((M.drop i).map nV))) = K4 at S4 e4 e34 ⊢
    refine ⟨q3, q4, _, _, rfl, rfl, e34, e4, by simp only [List.length_append, List.length_map, List.length_take, List.length_drop, List.length_cons, List.length_nil]; exact Nat.le_of_lt (small1000 (by omega)), fun q5 hq5 => ?_⟩
    have T4 := T3.trans S4
    have R4 := R12.mono T4
    have S5 := same_new (o := .lst ((M.take i).map nV ++ [x] ++ (M.drop i).map nV)) hq5
    have n5 : ¬ Z q5 := nz (kx12.trans (Kx.of T4)) R4 hq5
    have D5 : Dx Z (upd K4 q5 (.lst ((M.take i).map nV ++ [x] ++ (M.drop i).map nV))) (.ref q5) (.list (natsD (M.take i) ++ [dx] ++ natsD (M.drop i))) :=
      .lst n5 upd_same (((dx_all _).app (.cons ((Dx12.same T4).same S5) .nil)).app (dx_all _))
    generalize (upd K4 q5 (.lst ((M.take i).map nV ++ [x] ++ (M.drop i).map nV))) = K5 at S5 D5 ⊢
    have T5 := T4.trans S5
    have R5 := R4.mono S5
    have hv5 := T5 _ _ hv12
    clear S4 S5 e3 e4 e34 hq4 hq5 n5 T3 T4 R4
    refine ⟨_, rfl, _, rfl, _, rfl, v, _, rfl, SqL.of hv5, fun q6 hq6 => ?_⟩
    rw [cut_to, ← List.map_take]
    have S1 := same_new (o := .lst ((M.take i).map nV)) hq6
    have e1 := upd_same (H := K5) (a := q6) (o := .lst ((M.take i).map nV))
    generalize (upd K5 q6 (.lst ((M.take i).map nV))) = K6 at S1 e1 ⊢
    refine ⟨_, rfl, _, rfl, _, _, rfl, rfl, _, rfl, v, _, rfl, SqL.of (S1 _ _ hv5), fun q7 hq7 => ?_⟩
    rw [show (i : Int) + 1 = ((i + 1 : Nat) : Int) from by omega, cut_fromN, ← List.map_drop]
    have S2 := same_new (o := .lst ((M.drop (i + 1)).map nV)) hq7
    have e2 := upd_same (H := K6) (a := q7) (o := .lst ((M.drop (i + 1)).map nV))
    have e12 := S2 _ _ e1
    generalize (upd K6 q7 (.lst ((M.drop (i + 1)).map nV))) = K7 at S2 e2 e12 ⊢
    refine ⟨q6, q7, _, _, rfl, rfl, e12, e2, by rw [List.length_map, List.length_map, List.length_take, List.length_drop]; exact Nat.le_of_lt (small1000 (by omega)), fun q8 hq8 => ?_⟩
    rw [← List.map_append]
    have T7 := S1.trans S2
    have R7 := R5.mono T7
    have n8 : ¬ Z q8 := nz (kx12.trans (Kx.of (T5.trans T7))) R7 hq8
    have S3 := same_new (o := .lst ((M.take i ++ M.drop (i + 1)).map nV)) hq8
    have D8 : Dx Z (upd K7 q8 (.lst ((M.take i ++ M.drop (i + 1)).map nV))) (.ref q8) (.list (natsD (M.take i ++ M.drop (i + 1)))) := dx_lst n8 upd_same
    generalize (upd K7 q8 (.lst ((M.take i ++ M.drop (i + 1)).map nV))) = K8 at S3 D8 ⊢
    have T8 := T7.trans S3
    refine ⟨by show 2 ≤ sizeLine; decide, fun q9 hq9 => ?_⟩
    have S9 := same_new (o := .lst [.ref q5, .ref q8]) hq9
    have e9 := upd_same (H := K8) (a := q9) (o := .lst [.ref q5, .ref q8])
    generalize (upd K8 q9 (.lst [V.ref q5, .ref q8])) = K9 at S9 e9 ⊢
    have T9 := T8.trans S9
    have h19 := T9 _ _ (T5 _ _ h1)
    have R9 := R5.mono T9
    have n9 : q9 ≠ a := fun e => by
      obtain ⟨s0, s1, s2, z, _⟩ := (R5.mono T8).ex
      rw [← e, hq9] at z
      cases z
    refine ⟨o1, q9, _, _, rfl, rfl, h19, e9, by show 8 + 2 ≤ sizeLine; decide, fun o2 ho2 => ?_⟩
    have S10 := same_new (o := .lst ([V.ref p1, .ref p2, .ref p3, .non, .str "01", .ref d1, .int 5, .bl true] ++ [V.ref q5, .ref q8])) ho2
    have e10 := upd_same (H := K9) (a := o2) (o := .lst ([V.ref p1, .ref p2, .ref p3, .non, .str "01", .ref d1, .int 5, .bl true] ++ [V.ref q5, .ref q8]))
    have n10 : o2 ≠ a := (R9.new ho2).symm
    have L9 := ((L12.same T5).same T9).app (.cons (D5.same T9) (.cons (D8.same S9) .nil))
    generalize (upd K9 o2 (.lst ([V.ref p1, .ref p2, .ref p3, .non, .str "01", .ref d1, .int 5, .bl true] ++ [V.ref q5, .ref q8]))) = K10 at S10 e10 ⊢
    have hv9 := T9 _ _ hv5
    have kx9 := kx12.trans (Kx.of (T5.trans T9))
    have nva9 := nva
    clear S1 S2 S3 S9 e1 e2 e12 T7 R7 n8 D8 T8 e9 T9 h19 n9 hq6 hq7 hq8 hq9 hv5 R5 T5 D5 L12 kx12 Dx12 hv12 R12 no1 h1
    have hv10 := S10 _ _ hv9
    refine ⟨_, rfl, .inl ⟨rfl, _, SqL.of e10⟩, _, rfl, v, rfl, ⟨_, SqL.of hv10⟩, fun D hD => lc_map (a := v) (xs := M.map nV) (M.map boV) (SqL.of hv10) hD (by rw [List.length_map, List.length_map]) (by rw [List.length_map]; omega) (fun j y z H1 Q1 hy hz S1 q => ?_) (fun H1 S1 h1 => ?_)⟩
    · obtain ⟨g, hg, rfl⟩ := nmap_of hy
      have ez : z = boV g := by
        rw [List.getElem?_map, hg] at hz
        exact (Option.some.inj hz).symm
      subst ez
      refine ⟨rfl, _, rfl, by show 3 ≤ sizeLine; decide, fun l hl => ⟨_, rfl, _, _, rfl, ?_⟩⟩
      have e : (if (2 : Int) < (g : Int) then (2 : Int) else (g : Int)) = ((min g 2 : Nat) : Int) := by split <;> omega
      refine ⟨l, _, _, boV g, rfl, rfl, SqL.of upd_same, ?_, q _ (same_new hl)⟩
      rw [e]
      refine atI_nat ?_
      unfold boV
      by_cases g0 : g = 0
      · subst g0; rfl
      · rw [if_neg g0]
        by_cases g1 : g = 1
        · subst g1; rfl
        · rw [if_neg g1, show min g 2 = 2 by omega]
          rfl
    have nDo : D ≠ o2 := fun e => by rw [e, e10] at hD; cases hD
    have nDa : ¬ Z D := nz (kx9.trans (Kx.of S10)) (R9.mono S10) hD
    refine ⟨o2, _, _, rfl, rfl, S1 _ _ e10, small_line (by show 10 ≤ _; decide), ?_⟩
    have S := same_app (o := .lst ([V.ref p1, .ref p2, .ref p3, .non, .str "01", .ref d1, .int 5, .bl true] ++ [V.ref q5, .ref q8] ++ [.ref D])) ho2 (S10.trans S1)
    have hD1 : upd H1 o2 (.lst ([V.ref p1, .ref p2, .ref p3, .non, .str "01", .ref d1, .int 5, .bl true] ++ [V.ref q5, .ref q8] ++ [.ref D])) D = some (.lst (M.map boV)) := by rw [upd_ne nDo]; exact h1
    have ho := upd_same (H := H1) (a := o2) (o := .lst ([V.ref p1, .ref p2, .ref p3, .non, .str "01", .ref d1, .int 5, .bl true] ++ [V.ref q5, .ref q8] ++ [.ref D]))
    generalize (upd H1 o2 (.lst ([V.ref p1, .ref p2, .ref p3, .non, .str "01", .ref d1, .int 5, .bl true] ++ [V.ref q5, .ref q8] ++ [.ref D]))) = HB at S hD1 ho ⊢
    have RB := R9.mono S
    have hvB := S _ _ hv9
    have kxB := kx9.trans (Kx.of S)
    have LB := (L9.same S).app (.cons (.lst nDa hD1 (bo_dx M)) .nil)
    clear S hD1 h1 S1 nDo nDa hD L9 R9 hv9 kx9 S10 e10 ho2 hv10
    -- the last one, and the choice
    refine ⟨_, rfl, _, rfl, _, rfl, _, rfl, _, rfl, a, (n : Int), _, rfl, RB, by omega, by omega, by omega, fun r H1 r0 r1 kx1 R1 => ?_⟩
    have hv1 := kx1 _ _ nva hvB
    have nDo : o2 ≠ a := n10
    have ho1 := kx1 _ _ nDo ho
    have L1 := DxAll.kx (kz kx1) _ _ LB
    have kxC := kxB.trans kx1
    refine ⟨by show 1 ≤ sizeLine; decide, fun w1 hw1 => ?_⟩
    have S1 := same_new (o := .lst [.int r]) hw1
    have e1 := upd_same (H := H1) (a := w1) (o := .lst [.int r])
    generalize (upd H1 w1 (.lst [V.int r])) = H2 at S1 e1 ⊢
    refine ⟨v, w1, _, _, rfl, rfl, S1 _ _ hv1, e1, by simp only [List.length_map, List.length_cons, List.length_nil]; exact Nat.le_of_lt (small1000 (by omega)), fun w2 hw2 => ?_⟩
    have ei : M.map nV ++ [V.int r] = (M.map (fun n : Nat => (n : Int)) ++ [r]).map V.int := by rw [List.map_append, nV_ints]; rfl
    rw [ei]
    have S2 := same_new (o := .lst ((M.map (fun n : Nat => (n : Int)) ++ [r]).map V.int)) hw2
    have e2 := upd_same (H := H2) (a := w2) (o := .lst ((M.map (fun n : Nat => (n : Int)) ++ [r]).map V.int))
    generalize (upd H2 w2 (.lst ((M.map (fun n : Nat => (n : Int)) ++ [r]).map V.int))) = H3 at S2 e2 ⊢
    refine ⟨w2, _, rfl, SqL.of e2, by simp only [List.length_append, List.length_map, List.length_cons, List.length_nil]; omega, fun p c hp hc => ?_⟩
    have hc : c ≤ 21 := by simp only [List.length_append, List.length_map, List.length_cons, List.length_nil] at hc; omega
    refine ⟨p, _, _, rfl, upd_same, by omega, fun ns q g2 g3 g4 hq => ?_⟩
    have S3 := (same_new hp).trans (same_new (o := .lst (ns.map V.int)) hq)
    have hq3 := new_at (o := .lst (ns.map V.int)) hq
    have nqa : ¬ Z q := nz (kxC.trans (Kx.of ((S1.trans S2).trans (same_new hp)))) (R1.mono ((S1.trans S2).trans (same_new hp))) hq
    have T := (S1.trans S2).trans S3
    have R4 := R1.mono T
    have hns : ∀ j ∈ ns, j.natAbs ≤ 10 ^ 20 := fun j hj => by
      have e20 : (20 : Nat) ≤ 10 ^ 20 := by decide
      have hj := of_decide_eq_true ((g3 j).mp hj)
      rcases List.mem_append.mp hj with hj | hj
      · obtain ⟨m, hm, rfl⟩ := List.mem_map.mp hj
        have := hlt m hm
        show m ≤ _
        omega
      · rw [List.mem_singleton.mp hj]
        omega
    have L4 := (L1.same T).app (.cons (.lst nqa hq3 (ints_dx ns)) .nil)
    have ho4 := T _ _ ho1
    refine ⟨by show 1 ≤ sizeLine; decide, fun z hz => ?_⟩
    have S5 := same_new (o := .lst [.ref q]) hz
    have e5 := new_at (o := .lst [.ref q]) hz
    have R5 := R4.mono S5
    refine ⟨o2, z, _, _, rfl, rfl, S5 _ _ ho4, e5, by show 11 + 1 ≤ sizeLine; decide, fun L hL => ?_⟩
    have S6 := same_new (o := .lst ([V.ref p1, .ref p2, .ref p3, .non, .str "01", .ref d1, .int 5, .bl true] ++ [V.ref q5, .ref q8] ++ [.ref D] ++ [.ref q])) hL
    have e6 := new_at (o := .lst ([V.ref p1, .ref p2, .ref p3, .non, .str "01", .ref d1, .int 5, .bl true] ++ [V.ref q5, .ref q8] ++ [.ref D] ++ [.ref q])) hL
    have nLa : L ≠ a := (R5.new hL).symm
    refine ⟨a, L, _, _, rfl, R5.mono S6, by omega, nLa, e6, by show 0 < 12; decide, by show 12 < 1000; decide, fun u H7 hu kx7 R7 => ?_⟩
    obtain ⟨d, hd, hDx⟩ := (DxAll.kx (kz kx7) _ _ ((L4.same S5).same S6)).mem hu
    have all : lenD d ≤ 60 ∧ Sho d := by
      simp only [List.cons_append, List.nil_append, List.mem_cons, List.not_mem_nil, or_false] at hd
      have lt' : ∀ x ∈ M, x ≤ 1000 := fun x hx => by have := hlt x hx; omega
      have ltT : ∀ k, ∀ x ∈ M.take k, x ≤ 1000 := fun k x hx => lt' x (List.mem_of_mem_take hx)
      have ltD : ∀ k, ∀ x ∈ M.drop k, x ≤ 1000 := fun k x hx => lt' x (List.mem_of_mem_drop hx)
      have lT : ∀ k, (M.take k).length ≤ 20 := fun k => by rw [List.length_take]; omega
      have lD : ∀ k, (M.drop k).length ≤ 20 := fun k => by rw [List.length_drop]; omega
      rcases hd with rfl | rfl | rfl | rfl | rfl | rfl | rfl | rfl | rfl | rfl | rfl | rfl
      · have h : M.reverse.length ≤ 60 := by rw [List.length_reverse]; omega
        exact ⟨by show (natsD _).length ≤ 60; rw [natsD_len]; exact h, sho_nats h fun x hx => lt' x (List.mem_reverse.mp hx)⟩
      · have h : (M ++ M.take 1).length ≤ 60 := by rw [List.length_append]; have := lT 1; omega
        exact ⟨by show (natsD _).length ≤ 60; rw [natsD_len]; exact h, sho_nats h fun x hx => (List.mem_append.mp hx).elim (lt' x) (ltT 1 x)⟩
      · exact ⟨Nat.zero_le _, sho_natT (by omega) lt'⟩
      · exact ⟨Nat.zero_le _, sho_none⟩
      · exact ⟨Nat.zero_le _, sho_01⟩
      · exact ⟨Nat.zero_le _, sho_dct⟩
      · exact ⟨Nat.zero_le _, sho_int (by decide)⟩
      · exact ⟨Nat.zero_le _, sho_bool true⟩
      · have h1 := lT i
        have h2 := lD i
        refine ⟨?_, sho_put (by omega) (ltT i) (ltD i) lf⟩
        show (natsD (M.take i) ++ [dx] ++ natsD (M.drop i)).length ≤ 60
        rw [List.length_append, List.length_append, natsD_len, natsD_len]
        show _ + 1 + _ ≤ 60
        omega
      · have h : (M.take i ++ M.drop (i + 1)).length ≤ 60 := by rw [List.length_append]; have := lT i; have := lD (i + 1); omega
        exact ⟨by show (natsD _).length ≤ 60; rw [natsD_len]; exact h, sho_nats h fun x hx => (List.mem_append.mp hx).elim (ltT i x) (ltD (i + 1) x)⟩
      · exact ⟨by show (M.map boD).length ≤ 60; rw [List.length_map]; omega, sho_bo (by omega) lt'⟩
      · exact ⟨by show (ns.map PyData.int).length ≤ 60; rw [List.length_map]; omega, sho_ints (by omega) hns⟩
    exact k u d H7 (hZ ▸ hDx) all.1 all.2 ((kxC.trans (Kx.of ((T.trans S5).trans S6))).trans kx7) (R7.le (by omega))
end
end RS
namespace RS
open PySem L2
/-! ### what the law's turn keeps -/
structure LawAt (C : Addr) (H : Hp) (a L g p g2 t o : Addr) (cs gs : List Int) (tl : Tl) : Prop where
  R : RuleAt C H p g2 t o gs tl
  hL : H L = some (.lst (cs.map V.int))
  hg : H g = some (.lst (gs.map V.int))
  nL : L ≠ a
  ng : g ≠ a
  np : p ≠ a
  n2 : g2 ≠ a
  nt : t ≠ a
  no : o ≠ a
theorem RuleAt.kx {C a : Addr} {H H' : Hp} {p g t o : Addr} {gs : List Int} {tl : Tl} (R : RuleAt C H p g t o gs tl) (h : Kx a H H') (np : p ≠ a) (ng : g ≠ a) (nt : t ≠ a) (no : o ≠ a) : RuleAt C H' p g t o gs tl :=
  ⟨let ⟨dx, e⟩ := R.ob; ⟨dx, h _ _ np e⟩, h _ _ ng R.hg, h _ _ nt R.ht, h _ _ no R.ho, R.okG, R.okT⟩
theorem LawAt.kx {C : Addr} {H H' : Hp} {a L g p g2 t o : Addr} {cs gs : List Int} {tl : Tl} (B : LawAt C H a L g p g2 t o cs gs tl) (h : Kx a H H') : LawAt C H' a L g p g2 t o cs gs tl :=
  ⟨B.R.kx h B.np B.n2 B.nt B.no, h _ _ B.nL B.hL, h _ _ B.ng B.hg, B.nL, B.ng, B.np, B.n2, B.nt, B.no⟩
theorem LawAt.same {C : Addr} {H H' : Hp} {a L g p g2 t o : Addr} {cs gs : List Int} {tl : Tl} (B : LawAt C H a L g p g2 t o cs gs tl) (h : Same H H') : LawAt C H' a L g p g2 t o cs gs tl := B.kx (Kx.of h)
theorem made_same {H : Hp} {p dx : Addr} {o1 o2 : HO} (hp : H p = none) (hd : H dx = none) : Same H (upd (upd H dx o1) p o2) := fun b u e => by
  rw [upd_ne (ne_of_none e hp), upd_ne (ne_of_none e hd)]
  exact e
/-- the law's promise: a list of at most 63 ints is handed in, True comes out -/
def spLaw (K : PySem.W.Frag) : Sp := fun vs H Q _ => ∃ (a : Addr) (ns : List Int), vs = [.ref a] ∧ SqL K H a (ns.map V.int) ∧ ns.length ≤ 63 ∧ ∀ H', Q (.bl true) H'
/-- the cells: the first number (or 0), then some more -/
def cellsOf (n : Nat) (ns : List Int) : List Int := ns.getD 0 0 :: ((ns.drop 1).take (n - 1))
end RS
namespace RS
open PySem L2
def klN : List Str := ["_law_script", "_law_cell", "_law_source", "_law_gaps", "_law_count", "_law_rule", "_law_starts_here", "_law_blocked", "_law_drawn", "_law_value", "_law_changed_here", "_law_shown", "_law_told", "_law_client", "_law_partners", "_law_repeat"]
theorem scLaw : FnScope klN ["_law_script"] (defScope s_law) := ⟨rfl, rfl, rfl, by decide +kernel, rfl, by decide +kernel, by decide +kernel⟩
theorem PrT.at {H : Hp} : ∀ {rs : List V} {ds : List (Nat × List Nat)}, PrT H rs ds → ∀ {i : Nat} {x : V}, rs[i]? = some x → ∃ (t pt : Addr) (d : Nat × List Nat), x = .ref t ∧ ds[i]? = some d ∧ H t = some (.tup [.int (d.1 : Int), .ref pt])
  | _, _, .nil, i, x, h => by simp at h
  | _, _, @PrT.cons _ t pt c ms rs ds a b r, i, x, h => by
    cases i with
    | zero => simp at h; subst h; exact ⟨t, pt, (c, ms), rfl, rfl, a⟩
    | succ i => exact PrT.at r (i := i) (by simpa using h)
section
variable {Y Z : Addr → Prop} {H : Hp}
mutual
theorem Dx.imp (yz : ∀ c, Y c → Z c) : ∀ (d : PyData) (v : V), Dx Z H v d → Dx Y H v d
  | .none, _, h => by cases h; exact .non
  | .bool _, _, h => by cases h; exact .bl _
  | .int _, _, h => by cases h; exact .int _
  | .str _, _, h => by cases h; exact .str _
  | .list ds, _, h => by
    cases h with
    | lst n e r => exact .lst (fun y => n (yz _ y)) e (DxAll.imp yz ds _ r)
  | .tuple ds, _, h => by
    cases h with
    | tup n e r => exact .tup (fun y => n (yz _ y)) e (DxAll.imp yz ds _ r)
  | .dict _, _, h => by
    cases h with
    | dct n e => exact .dct (fun y => n (yz _ y)) e
theorem DxAll.imp (yz : ∀ c, Y c → Z c) : ∀ (ds : List PyData) (vs : List V), DxAll Z H vs ds → DxAll Y H vs ds
  | [], _, h => by cases h; exact .nil
  | d :: ds, _, h => by
    cases h with
    | cons h1 h2 => exact .cons (Dx.imp yz d _ h1) (DxAll.imp yz ds _ h2)
end
end
section
variable {P : Program} {w : World} {K : PySem.W.Frag} {mg : Str → Option Value} {base : Heap}
theorem ok_law {f C fI fCell fSrc fN fRep fSts fChg fDue fDb fBlk fIsC : Addr} {fd fdI fdCell fdSrc fdN fdRep fdSts fdChg fdDue fdDb fdBlk fdIsC : FuncData} (F : Fun K "law" "law" s_law f fd) (T : Txt K mg C) (mRep0 : mg "repr" = none) (M : Mk K C fI) (GI : FnOk P w K mg base CX0 3 fI fdI ["self", "gaps", "tail"] (spInit C)) (bI : Binds K fdI ["self", "gaps", "tail"] [])
    (GCell : FnOk P w K mg base CX0 1 fCell fdCell ["_law_script", "_law_index"] (spCell K)) (bCell : Binds K fdCell ["_law_script", "_law_index"] []) (mCell : mg "_law_cell_at" = some (.ref fCell)) (kCell : PySem.W.keepIn K (.ref fCell) = true)
    (GSrc : FnOk P w K mg base CX0 1 fSrc fdSrc ["_law_cell"] spSrcOf) (bSrc : Binds K fdSrc ["_law_cell"] []) (mSrc : mg "_law_source_of" = some (.ref fSrc)) (kSrc : PySem.W.keepIn K (.ref fSrc) = true)
    (GN : FnOk P w K mg base CX0 1 fN fdN ["_law_source", "_law_bound"] spNext) (bN : Binds K fdN ["_law_source", "_law_bound"] []) (mN : mg "_law_draw" = some (.ref fN)) (kN : PySem.W.keepIn K (.ref fN) = true)
    (GRep : FnOk P w K mg base CX0 3 fRep fdRep ["_law_source"] spRep) (bRep : Binds K fdRep ["_law_source"] []) (mRep : mg "_law_repeating" = some (.ref fRep)) (kRep : PySem.W.keepIn K (.ref fRep) = true)
    (GSts : FnOk P w K mg base CX0 3 fSts fdSts ["_law_source", "_law_gaps", "_law_count", "_law_most"] spSts) (bSts : Binds K fdSts ["_law_source", "_law_gaps", "_law_count", "_law_most"] []) (mSts : mg "_law_starts" = some (.ref fSts)) (kSts : PySem.W.keepIn K (.ref fSts) = true)
    (GChg : FnOk P w K mg base CX0 3 fChg fdChg ["_law_source", "_law_members", "_law_size"] spChg) (bChg : Binds K fdChg ["_law_source", "_law_members", "_law_size"] []) (mChg : mg "_law_changed" = some (.ref fChg)) (kChg : PySem.W.keepIn K (.ref fChg) = true)
    (GDue : FnOk P w K mg base CX0 3 fDue fdDue ["_law_gaps", "_law_count", "_law_starts_here", "_law_value"] spDue) (bDue : Binds K fdDue ["_law_gaps", "_law_count", "_law_starts_here", "_law_value"] []) (mDue : mg "_law_due" = some (.ref fDue)) (kDue : PySem.W.keepIn K (.ref fDue) = true)
    (GDb : FnOk P w K mg base CX0 7 fDb fdDb ["_law_rule", "_law_gaps", "_law_count", "_law_starts_here", "_law_value"] (spDb C)) (bDb : Binds K fdDb ["_law_rule", "_law_gaps", "_law_count", "_law_starts_here", "_law_value"] []) (mDb : mg "_law_doubled_right" = some (.ref fDb)) (kDb : PySem.W.keepIn K (.ref fDb) = true)
    (GBlk : FnOk P w K mg base CX0 6 fBlk fdBlk ["rule", "starts"] (spBlk K C)) (bBlk : Binds K fdBlk ["rule", "starts"] []) (mBlk : mg "blocked_clients" = some (.ref fBlk)) (kBlk : PySem.W.keepIn K (.ref fBlk) = true)
    (GIsC : FnOk P w K mg base CX0 6 fIsC fdIsC ["rule", "starts", "value"] (spIsCD C)) (bIsC : Binds K fdIsC ["rule", "starts", "value"] []) (mIsC : mg "is_closed" = some (.ref fIsC)) (kIsC : PySem.W.keepIn K (.ref fIsC) = true) :
    FnG P w K mg base 8 f fd ["_law_script"] (spLaw K) := by
  refine F.calm scLaw (fun {vs H Q E} h => ?_) (fun cdv A outer s H vs Q E calm hr h => ?_)
  · obtain ⟨a, ns, rfl, _⟩ := h
    rfl
  · obtain ⟨sc, ns, rfl, hs, hn63, k⟩ := h
    have hr1 := hr.mono (show 1 ≤ 7 by decide)
    have hr2 := hr.mono (show 2 ≤ 7 by decide)
    have hr3 := hr.mono (show 3 ≤ 7 by decide)
    have hr4 := hr.mono (show 4 ≤ 7 by decide)
    have hr6 := hr.mono (show 6 ≤ 7 by decide)
    refine ⟨_, (pss_cons (ps_for PassesOwn.never rfl (pi_list (pe_op op_cat (pe_lst (pa_cons (pe_call GCell hr1 rfl mCell kCell bCell .nil pass0 (pa_cons (pv 0) (pa_cons pe_int pa_nil))) pa_nil)) (pe_slice sl_list (pv 0) (po_some pe_int) (po_some pe_int)))) (pg_name (i := 1) scLaw.nd rfl (Or.inl rfl)) (pss_cons (ps_set (i := 2) scLaw.nd rfl (Or.inr rfl) (pe_call GSrc hr1 rfl mSrc kSrc bSrc .nil pass0 (pa_cons (pv 1) pa_nil))) (pss_cons (ps_asg (pe_call GRep hr3 rfl mRep kRep bRep .nil pass0 (pa_cons (pv 2) pa_nil)) (pg_tup rfl (pgs_cons (pg_name (i := 3) scLaw.nd rfl (Or.inl rfl)) (pgs_cons (pg_name (i := 4) scLaw.nd rfl (Or.inl rfl)) pgs_nil)))) (pss_cons (ps_set (i := 5) scLaw.nd rfl (Or.inl rfl) (pe_make M GI hr4 rfl T.mgC bI .nil pass0 (pa_cons (pv 3) (pa_cons (pe_tup (pa_cons pe_str (pa_cons (pv 4) pa_nil))) pa_nil)))) (pss_cons (ps_set (i := 6) scLaw.nd rfl (Or.inr rfl) (pe_call GSts hr3 rfl mSts kSts bSts .nil pass0 (pa_cons (pv 2) (pa_cons (pv 3) (pa_cons (pv 4) (pa_cons pe_int pa_nil)))))) (pss_cons (ps_set (i := 7) scLaw.nd rfl (Or.inr rfl) (pe_lc (own := [("_law_client", 13), ("_law_partners", 14)]) (g := gTup K 2 (gCons (gName 13) (gCons (gName 14) gNil))) (tt := tYes) rfl scLaw.nd (pi_list (pe_call GBlk hr6 rfl mBlk kBlk bBlk .nil pass0 (pa_cons (pv 5) (pa_cons (pv 6) pa_nil)))) (blkOk_by (own := [("_law_client", 13), ("_law_partners", 14)]) (N := klN) (sc := defScope s_law) (by decide +kernel))
            (fun _ _ _ _ _ => pg_tup rfl (pgs_cons (pg_name (i := 13) scLaw.nd rfl (Or.inl rfl)) (pgs_cons (pg_name (i := 14) scLaw.nd rfl (Or.inl rfl)) pgs_nil))) (fun _ _ _ _ _ => pts_nil) (fun _ _ _ _ _ => pv 13))) (pss_cons (ps_setLc (i := 8) (own := [("_law_client", 13)]) (g := gName 13) (by rfl) scLaw.nd rfl rfl (sw_true rfl rfl rfl (by decide +kernel)) (pi_range1 rfl T.range (pa_cons (pe_callB call_len_seq (by rfl) T.len (by decide +kernel) (pa_cons (pv 6) pa_nil)) pa_nil)) (blkOk_by (own := [("_law_client", 13)]) (N := klN) (sc := (defScope s_law)) (by decide +kernel)) (fun _ _ _ _ _ => (pg_name (i := 13) scLaw.nd rfl (Or.inl rfl))) (fun _ _ _ _ _ => pts_one (pt_cmpR op_eq (pe_call GN hr1 rfl mN kN bN .nil pass0 (pa_cons (pv 2) (pa_cons pe_int pa_nil))) pe_int (nomark _))) (fun _ _ _ _ _ => (pv 13))) (pss_cons (ps_if (PW.pt (pw_or (pt_not (pt_val (pe_call GIsC hr6 rfl mIsC kIsC bIsC .nil pass0 (pa_cons (pv 5) (pa_cons (pv 6) (pa_cons (pv 7) pa_nil)))))) (pw_or1 (pt_not (pt_val (pe_call GIsC hr6 rfl mIsC kIsC bIsC .nil pass0 (pa_cons (pv 5) (pa_cons (pv 6) (pa_cons (pe_lst pa_nil) pa_nil))))))))) (pss_one (ps_ret pe_bl)) pss_nil) (pss_cons (ps_for PassesOwn.never rfl (pi_list (pe_lst (pa_cons (pv 7) (pa_cons (pv 8) (pa_cons (pe_slice sl_list (pv 7) po_none (po_some pe_int)) (pa_cons (pe_slice sl_list (pv 8) po_none (po_some pe_int)) (pa_cons (pe_listRg rfl (by rfl) T.list (prg_1 (by rfl) T.range (pe_callB call_len_seq (by rfl) T.len (by decide +kernel) (pa_cons (pv 6) pa_nil)))) pa_nil))))))) (pg_name (i := 9) scLaw.nd rfl (Or.inl rfl)) (pss_one (ps_if (pt_not (pt_val (pe_call GDb hr rfl mDb kDb bDb .nil pass0 (pa_cons (pv 5) (pa_cons (pv 3) (pa_cons (pv 4) (pa_cons (pv 6) (pa_cons (pv 9) pa_nil)))))))) (pss_one (ps_ret pe_bl)) pss_nil))) (pss_cons (ps_setLc (i := 10) (own := [("_law_repeat", 15)]) (g := gName 15) (tt := tYes) (by rfl) scLaw.nd rfl rfl (sw_true rfl rfl rfl (by decide +kernel)) (pi_range1 rfl T.range (pa_cons pe_int pa_nil)) (blkOk_by (own := [("_law_repeat", 15)]) (N := klN) (sc := (defScope s_law)) (by decide +kernel)) (fun _ _ _ _ _ => (pg_name (i := 15) scLaw.nd rfl (Or.inl rfl))) (fun _ _ _ _ _ => pts_nil) (fun _ _ _ _ _ => (pe_call GChg hr3 rfl mChg kChg bChg .nil pass0 (pa_cons (pv 2) (pa_cons (pv 7) (pa_cons (pe_lenK K (by rfl) (by rfl) T.len (pv 6)) pa_nil)))))) (pss_one (ps_for PassesOwn.never rfl (pi_list (pe_op op_cat (pe_lst (pa_cons (pv 8) (pa_cons (pe_listRg rfl (by rfl) T.list (prg_1 (by rfl) T.range (pe_callB call_len_seq (by rfl) T.len (by decide +kernel) (pa_cons (pv 6) pa_nil)))) pa_nil))) (pv 10))) (pg_name (i := 9) scLaw.nd rfl (Or.inl rfl)) (pss_cons (ps_set (i := 11) scLaw.nd rfl (Or.inl rfl) (pe_callB (call_sho (by exact calm) (by have := hr.un; show (A.deeper _).units + 64 < cLine; omega)) (by rfl) mRep0 (by decide +kernel) (pa_cons (pv 9) pa_nil))) (pss_cons (ps_set (i := 12) scLaw.nd rfl (Or.inl rfl) (pe_call GIsC hr6 rfl mIsC kIsC bIsC .nil pass0 (pa_cons (pv 5) (pa_cons (pv 6) (pa_cons (pv 9) pa_nil))))) (pss_one (ps_if (PW.pt (pw_or (pt_cmpR (op_neD hr.units) (pv 12) (pe_call GDue hr3 rfl mDue kDue bDue .nil pass0 (pa_cons (pv 3) (pa_cons (pv 4) (pa_cons (pv 6) (pa_cons (pv 9) pa_nil))))) (nomark _)) (pw_or (pt_not (pt_val (pe_callB call_isi (by rfl) T.isi (by decide +kernel) (pa_cons (pv 12) (pa_cons (pe_bltn (v := .ty "bool") (by rfl) T.bool (by decide +kernel) rfl) pa_nil))))) (pw_or1 (pt_cmpR op_ne (pe_callB (call_sho (by exact calm) (by have := hr.un; show (A.deeper _).units + 64 < cLine; omega)) (by rfl) mRep0 (by decide +kernel) (pa_cons (pv 9) pa_nil)) (pv 11) (nomark _)))))) (pss_one (ps_ret pe_bl)) pss_nil)))))))))))))))) (pss_one (ps_ret pe_bl))), ?_⟩
    -- the cells
    refine ⟨_, rfl, sc, ns, rfl, hs, (by show 1 ≤ sizeLine; decide), fun l1 hl1 => ?_⟩
    refine ⟨_, rfl, _, rfl, _, rfl, sc, _, rfl, (same_new hl1).seq hs, fun l2 hl2 => ?_⟩
    have hl1' := same_new (o := .lst (cutV (ns.map V.int) (some 1) (some 4))) hl2 _ _ (upd_same (H := H) (a := l1) (o := .lst [V.int (ns.getD 0 0)]))
    refine ⟨l1, l2, _, _, rfl, rfl, hl1', upd_same, ?_, fun L hL => ?_⟩
    · have := cutV_length (ns.map V.int) (some 1) (some 4)
      rw [List.length_map] at this
      exact Nat.le_of_lt (small1000 (by show 1 + _ ≤ 1000; omega))
    have ecs : [V.int (ns.getD 0 0)] ++ cutV (ns.map V.int) (some 1) (some 4) = (cellsOf 4 ns).map V.int := by
      rw [show (some (1 : Int)) = some ((1 : Nat) : Int) from rfl, show (some (4 : Int)) = some ((4 : Nat) : Int) from rfl, cut_mid]
      unfold cellsOf
      rw [List.map_cons, List.map_take, List.map_drop]
      rfl
    rw [ecs]
    generalize cellsOf 4 ns = cs
    refine ⟨L, rfl, ⟨_, SqL.of upd_same⟩, for_list (a := L) (xs := cs.map V.int) (fun i σ H' => (∃ v1 v2 v3 v4 v5 v6 v7 v8 v9 v10 v11 v12, σ = [some (.ref sc), v1, v2, v3, v4, v5, v6, v7, v8, v9, v10, v11, v12, none, none, none]) ∧ H' L = some (.lst (cs.map V.int))) ⟨⟨_, _, _, _, _, _, _, _, _, _, _, _, rfl⟩, upd_same⟩ (fun i σ H' _ p => SqL.of p.2) ?_ (fun σ H' p => k H')⟩
    rintro i x σ H0 hx ⟨⟨v1, v2, v3, v4, v5, v6, v7, v8, v9, v10, v11, v12, rfl⟩, hL0⟩
    obtain ⟨c, _, rfl⟩ := map_of hx
    clear hx
    refine ⟨_, rfl, c, rfl, fun a H1 ha S1 R1 => ?_⟩
    have nLa : L ≠ a := ne_of_none hL0 ha
    have hL1 := S1 _ _ hL0
    refine ⟨_, rfl, a, 0, rfl, R1, by omega, fun u g gs m H2 hg0 hu hg okG hm1 hm2 kx2 R2 => ?_⟩
    have nga : g ≠ a := (R1.new hg0).symm
    have hL2 := kx2 _ _ nLa hL1
    clear kx2 R1 hL1 hL0 ha S1
    refine ⟨u, _, rfl, SqT.of hu, rfl, _, _, rfl, _, _, rfl, rfl, ?_⟩
    -- the rule
    refine ⟨_, rfl, _, rfl, (by show 2 ≤ sizeLine; decide), fun t0 ht0 => fun p dx hp hdx _ => ?_⟩
    have St := same_new (o := .tup [V.str "repeat", .int (m : Int)]) ht0
    have ht1 : (upd H2 t0 (.tup [V.str "repeat", .int (m : Int)])) t0 = some (.tup (Tl.rep m).vs) := upd_same
    have hg2' := St _ _ hg
    have hL2' := St _ _ hL2
    have R2' := R2.mono St
    generalize (upd H2 t0 (.tup [V.str "repeat", .int (m : Int)])) = H3 at hp hdx ht1 hg2' hL2' R2' ⊢
    have Sm : Same H3 (upd (upd H3 dx (.own p)) p (.ins C dx [])) := made_same hp hdx
    refine ⟨p, dx, g, t0, gs, .rep m, rfl, upd_same, Sm _ _ hg2', Sm _ _ ht1, okG, ⟨hm1, hm2⟩, fun g2 o H4 hg2 ho kp R4 => ⟨rfl, ?_⟩⟩
    have S4 : Same H3 H4 := fun b u e => kp b u (Sm _ _ e) (ne_of_none e hp)
    have Ra := R2'.mono Sm
    have B4 : LawAt C H4 a L g p g2 t0 o cs gs (.rep m) := by
      obtain ⟨s0, s1, s2, hsa, _⟩ := R2'.ex
      exact ⟨R4, S4 _ _ hL2', S4 _ _ hg2', nLa, nga, (R2'.new hp).symm, (Ra.new hg2).symm, ne_of ht1 hsa (by intro z; cases z), (Ra.new ho).symm⟩
    have R4s := R2'.mono S4
    clear hg ht1 nga hL2 R2 Sm hp hdx hg2 ho kp R4 S4 Ra nLa hu hg0 hg2' hL2' R2' St ht0
    -- the starts
    refine ⟨_, rfl, _, rfl, _, rfl, a, g, gs, m, 7, 0 + 30, rfl, R4s, by omega, B4.ng, B4.hg, okG, hm1, hm2, by decide, by decide, fun b bs H5 hb0 hb hb1 hb7 kx5 R5 => ?_⟩
    have B5 := B4.kx kx5
    have nba : b ≠ a := (R4s.new hb0).symm
    clear B4 R4s kx5 hb0
    -- the blocked ones
    refine ⟨_, rfl, _, rfl, p, g2, t0, o, b, gs, m, bs, rfl, B5.R, hb, hb1, by omega, fun ks q rs H6 hq0 S6 hG hq6 hP6 => ?_⟩
    have hlr := hP6.len
    rw [show (blkOf (tabOf gs m bs) ks).length = ks.length by unfold blkOf; rw [List.length_map]] at hlr
    have hkl := asc_len hG.pw hG.lt
    refine ⟨q, rfl, ⟨_, SqL.of hq6⟩, fun D hD => lc_map (a := q) (xs := rs) (ks.map nV) (SqL.of hq6) hD (by rw [List.length_map]; omega) (by omega) (fun i x y H7 Q7 hx hy S7 qq => ?_) (fun H7 S7 h7 => ?_)⟩
    · obtain ⟨t, pt, d, rfl, hd, ht⟩ := hP6.at hx
      have ey : y = .int (d.1 : Int) := by
        unfold blkOf at hd
        rw [List.getElem?_map] at hd hy
        cases hc : ks[i]? with
        | none => rw [hc] at hd; cases hd
        | some c =>
          rw [hc] at hd hy
          rw [← Option.some.inj hd]
          exact (Option.some.inj hy).symm
      subst ey
      exact ⟨t, _, rfl, SqT.of (S7 _ _ ht), rfl, _, _, rfl, _, _, rfl, rfl, rfl, _, rfl, qq _ (Same.refl _)⟩
    have nDa : D ≠ a := ((R5.mono S6).new hD).symm
    have S67 := S6.trans S7
    have B7 := B5.same S67
    have hbB := S67 _ _ hb
    have R7 := R5.mono S67
    clear hD hlr hP6 hq6 hq0 S6 S7 S67 R5 B5 hb
    -- the drawn ones
    refine ⟨_, rfl, b, _, rfl, .inl (SqL.of hbB), _, rfl, ?_⟩
    rw [List.length_map]
    refine ⟨by omega, by omega, fun D2 hD2 => ?_⟩
    have nD2a : D2 ≠ a := (R7.new hD2).symm
    refine lc_range (lo := 0) (n := ((bs.length : Int)).toNat) (fun i H' => Kx a H7 H' ∧ Src H' a (430 + i) ∧ ∃ ds : List Nat, H' D2 = some (.lst (ds.map nV)) ∧ ds.Pairwise (· < ·) ∧ (∀ x ∈ ds, x < i) ∧ ds.length ≤ i)
      ⟨Kx.of (same_new hD2), (R7.le (by omega)).mono (same_new hD2), [], upd_same, List.Pairwise.nil, (fun x hx => nomatch hx), Nat.le_refl _⟩ (fun i H8 hi p => ?_) (fun H8 p => ?_)
    · obtain ⟨kx8, R8, ds, hds, hpw, hlt, hlen⟩ := p
      refine ⟨rfl, ?_⟩
      refine ⟨_, rfl, a, 2, 430 + i, rfl, R8, by omega, by omega, by omega, fun r H9 r0 r1 kx9 R9 => ⟨rfl, _, rfl, ?_⟩⟩
      have hds9 := kx9 _ _ nD2a hds
      by_cases hr0 : r = 0
      · refine iteTb (decide_eq_true (by rw [hr0])) ?_
        refine ⟨_, rfl, _, hds9, by rw [List.length_map]; exact small1000 (by omega), ?_⟩
        refine ⟨fun c u n e => ?_, ?_, ds ++ [i], ?_, ?_, ?_, ?_⟩
        · have e2 := kx9 _ _ n (kx8 _ _ n e)
          rw [upd_ne (ne_of_none e hD2)]
          exact e2
        · obtain ⟨s0, s1, s2, z, rest⟩ := R9.ex
          exact ⟨s0, s1, s2, by rw [upd_ne nD2a.symm]; exact z, rest⟩
        · rw [upd_same, List.map_append]
          show some (HO.lst (ds.map nV ++ [V.int (0 + (i : Int))])) = some (.lst (ds.map nV ++ [V.int (i : Int)]))
          rw [Int.zero_add]
        · exact List.pairwise_append.mpr ⟨hpw, List.pairwise_singleton _ _, fun x hx y hy => by rw [List.mem_singleton.mp hy]; exact hlt x hx⟩
        · intro x hx
          rcases List.mem_append.mp hx with hx | hx
          · exact Nat.lt_succ_of_lt (hlt x hx)
          · rw [List.mem_singleton.mp hx]; exact Nat.lt_succ_self i
        · rw [List.length_append]
          show ds.length + 1 ≤ i + 1
          omega
      · refine iteFb (decide_eq_false fun e => hr0 (V.int.inj e)) ?_
        exact ⟨kx8.trans kx9, R9, ds, hds9, hpw, fun x hx => Nat.lt_succ_of_lt (hlt x hx), Nat.le_succ_of_le hlen⟩
    obtain ⟨kx8, R8, ds, hds, hdpw, hdlt, hdlen⟩ := p
    have B8 := B7.kx kx8
    have hb8 := kx8 _ _ nba hbB
    have hk8 := kx8 _ _ nDa h7
    have R8 := R8.le (show 430 + ((bs.length : Int)).toNat ≤ 500 by omega)
    have hdlt : ∀ x ∈ ds, x < bs.length := fun x hx => by have := hdlt x hx; omega
    have hdlen : ds.length ≤ 7 := by omega
    clear kx8 B7 hbB R7 hD2 h7
    -- both judged
    have klen : ∀ {M : List Nat}, M.length ≤ 40 → lenD (.list (natsD M)) ≤ 60 := fun {M} h => by
      show (natsD M).length ≤ 60
      rw [natsD_len]
      omega
    refine ⟨_, rfl, _, rfl, _, rfl, p, g2, t0, o, b, .ref D, gs, m, bs, fun _ => False, _, rfl, B8.R, hb8, hb1, by omega, dx_lst id hk8, klen (by omega), fun r H9 hr9 S9 => ?_⟩
    obtain rfl : r = true := hr9.mpr ⟨ks, rfl, hG.pw, hG.lt, hG.cl⟩
    refine ⟨true, rfl, iteF ?_⟩
    refine ⟨_, rfl, _, rfl, by show 0 ≤ sizeLine; decide, fun e0 he0 => ?_⟩
    have S10 := S9.trans (same_new (o := .lst []) he0)
    have hee := new_at (o := .lst []) he0
    refine ⟨p, g2, t0, o, b, .ref e0, gs, m, bs, fun _ => False, .list (natsD []), rfl, B8.R.mono S10, S10 _ _ hb8, hb1, by omega, dx_lst (M := []) id hee, klen (by show 0 ≤ 40; decide), fun r H11 hr11 S11 => ?_⟩
    obtain rfl : r = true := hr11.mpr ⟨[], rfl, List.Pairwise.nil, (fun x hx => nomatch hx), (fun x hx => nomatch hx)⟩
    refine ⟨true, rfl, iteF ?_⟩
    have T := S10.trans S11
    have B11 := B8.same T
    have hb11 := T _ _ hb8
    have hk11 := T _ _ hk8
    have hd11 := T _ _ hds
    have R11 := R8.mono T
    clear hr9 hr11 S9 S10 S11 hee he0 T B8 hb8 hk8 hds R8
    -- and with a member twice
    refine ⟨_, rfl, _, rfl, _, rfl, _, rfl, D, _, rfl, SqL.of hk11, fun s1 hs1 => ?_⟩
    rw [show (some (1 : Int)) = some ((1 : Nat) : Int) from rfl, cut_to, ← List.map_take]
    have S1 := same_new (o := .lst ((ks.take 1).map nV)) hs1
    have e1 := new_at (o := .lst ((ks.take 1).map nV)) hs1
    generalize (upd H11 s1 (.lst ((ks.take 1).map nV))) = H12 at S1 e1 ⊢
    refine ⟨_, rfl, _, rfl, D2, _, rfl, SqL.of (S1 _ _ hd11), fun s2 hs2 => ?_⟩
    rw [show (some (1 : Int)) = some ((1 : Nat) : Int) from rfl, cut_to, ← List.map_take]
    have S2 := same_new (o := .lst ((ds.take 1).map nV)) hs2
    have e2 := new_at (o := .lst ((ds.take 1).map nV)) hs2
    generalize (upd H12 s2 (.lst ((ds.take 1).map nV))) = H13 at S2 e2 ⊢
    have S12 := S1.trans S2
    refine ⟨_, rfl, b, _, rfl, .inl (SqL.of (S12 _ _ hb11)), _, rfl, ?_⟩
    refine ⟨RgOk.of_le (by omega) (by rw [List.length_map]; omega) (by omega) (by omega), fun s3 hs3 => ?_⟩
    have er : rgV 0 ((bs.map V.int).length : Int) = (List.range bs.length).map nV := by
      unfold rgV
      rw [List.length_map, Int.sub_zero, Int.toNat_natCast]
      refine List.map_congr_left fun i _ => ?_
      show V.int (0 + (i : Int)) = V.int (i : Int)
      rw [Int.zero_add]
    rw [er]
    have S3 := same_new (o := .lst ((List.range bs.length).map nV)) hs3
    have e3 := new_at (o := .lst ((List.range bs.length).map nV)) hs3
    generalize (upd H13 s3 (.lst ((List.range bs.length).map nV))) = H14 at S3 e3 ⊢
    refine ⟨by show 5 ≤ sizeLine; decide, fun L5 hL5 => ?_⟩
    have S4 := same_new (o := .lst [.ref D, .ref D2, .ref s1, .ref s2, .ref s3]) hL5
    have e4 := new_at (o := .lst [.ref D, .ref D2, .ref s1, .ref s2, .ref s3]) hL5
    generalize (upd H14 L5 (.lst [V.ref D, .ref D2, .ref s1, .ref s2, .ref s3])) = H15 at S4 e4 ⊢
    have S5 := (S12.trans S3).trans S4
    have B15 := B11.same S5
    have hb15 := S5 _ _ hb11
    have R15 := R11.mono S5
    have hk15 := S5 _ _ hk11
    have hd15 := S5 _ _ hd11
    have items : ∀ x ∈ [V.ref D, .ref D2, .ref s1, .ref s2, .ref s3], ∃ (y : Addr) (M : List Nat), x = .ref y ∧ H15 y = some (.lst (M.map nV)) ∧ M.length ≤ bs.length := fun x hx => by
      have hdb : ds.length ≤ bs.length := asc_len hdpw hdlt
      simp only [List.mem_cons, List.not_mem_nil, or_false] at hx
      rcases hx with rfl | rfl | rfl | rfl | rfl
      · exact ⟨_, ks, rfl, hk15, hkl⟩
      · exact ⟨_, ds, rfl, hd15, hdb⟩
      · exact ⟨_, _, rfl, S4 _ _ (S3 _ _ (S2 _ _ e1)), by rw [List.length_take]; omega⟩
      · exact ⟨_, _, rfl, S4 _ _ (S3 _ _ e2), by rw [List.length_take]; omega⟩
      · exact ⟨_, _, rfl, S4 _ _ e3, by rw [List.length_range]; exact Nat.le_refl _⟩
    clear S1 S2 S3 S4 S12 e1 e2 e3 hs1 hs2 hs3 hL5 S5 B11 hb11 R11 hk11 hd11
    refine ⟨L5, rfl, ⟨_, SqL.of e4⟩, for_list (a := L5) (xs := [V.ref D, .ref D2, .ref s1, .ref s2, .ref s3]) (fun i σ H' => (∃ w9, σ = [some (.ref sc), some (.int c), some (.ref a), some (.ref g), some (.int (m : Int)), some (.ref p), some (.ref b), some (.ref D), some (.ref D2), w9, v10, v11, v12, none, none, none]) ∧ Same H15 H') ⟨⟨v9, rfl⟩, Same.refl _⟩ (fun i σ H' _ z => SqL.of (z.2 _ _ e4)) ?_ ?_⟩
    · rintro i x σ H16 hx ⟨⟨w9, rfl⟩, S16⟩
      obtain ⟨y, M, rfl, hy, hM⟩ := items x (List.mem_of_getElem? hx)
      refine ⟨_, rfl, _, rfl, _, rfl, _, rfl, _, rfl, p, g2, t0, o, g, b, y, gs, m, bs, M, rfl, (B15.same S16).R, S16 _ _ B15.hg, S16 _ _ hb15, hb1, by omega, S16 _ _ hy, hM, fun H17 S17 => ⟨true, rfl, iteF ⟨⟨_, rfl⟩, S16.trans S17⟩⟩⟩
    rintro σ H16 ⟨⟨w9, rfl⟩, S16⟩
    have B16 := B15.same S16
    have hb16 := S16 _ _ hb15
    have R16 := R15.mono S16
    have hk16 := S16 _ _ hk15
    have hd16 := S16 _ _ hd15
    clear S16 B15 hb15 R15 hk15 hd15 items e4
    -- eight odd ones
    have nYa : ∀ {D3 : Addr} {H1 H2 : Hp}, Kx a H1 H2 → ∀ c u, ¬ (c = a ∨ c = D3) → H1 c = some u → H2 c = some u := fun k c u n e => k c u (fun z => n (.inl z)) e
    refine ⟨8, rfl, by decide, by decide, fun D3 hD3 => ?_⟩
    have nD3a : D3 ≠ a := (R16.new hD3).symm
    refine lc_range (lo := 0) (n := (8 : Int).toNat) (fun i H' => Kx a H16 H' ∧ Src H' a (500 + 10 * i) ∧ ∃ us dd, H' D3 = some (.lst us) ∧ us.length ≤ i ∧ DxAll (fun c => c = a ∨ c = D3) H' us dd ∧ ∀ d ∈ dd, lenD d ≤ 60 ∧ Sho d)
      ⟨Kx.of (same_new hD3), R16.mono (same_new hD3), [], [], upd_same, Nat.le_refl _, .nil, fun d hd => nomatch hd⟩ (fun i H17 hi p => ?_) (fun H17 p => ?_)
    · obtain ⟨kx17, R17, us, dd, hus, hul, hdx, hok⟩ := p
      have hi : i < 8 := hi
      refine ⟨rfl, ?_⟩
      refine yes_t (iteT ?_)
      refine ⟨_, rfl, _, rfl, _, rfl, b, _, rfl, .inl (SqL.of (kx17 _ _ nba hb16)), a, D, bs.length, ks, 500 + 10 * i, by rw [List.length_map]; rfl, R17, by omega, nDa, kx17 _ _ nDa hk16, by omega, hG.lt, hb1, by omega, fun u d H18 hd hl hsh kx18 R18 => ?_⟩
      have Ha : H17 a ≠ none := by
        obtain ⟨s0, s1, s2, z, _⟩ := R17.ex
        rw [z]
        intro h
        cases h
      have hd' := Dx.imp (Y := fun c => c = a ∨ c = D3) (fun c hc => by
        rcases hc with rfl | rfl
        · exact Ha
        · rw [hus]; intro h; cases h) d u hd
      have upk : ∀ {o : HO} (c : Addr) (u : HO), ¬ (c = a ∨ c = D3) → H18 c = some u → upd H18 D3 o c = some u := fun c u n e => by
        rw [upd_ne fun z => n (.inr z)]
        exact e
      refine ⟨us, kx18 _ _ nD3a hus, small1000 (by omega), ?_, ?_, us ++ [u], dd ++ [d], upd_same, ?_, ?_, ?_⟩
      · intro c u n e
        rw [upd_ne (ne_of_none e hD3)]
        exact kx18 _ _ n (kx17 _ _ n e)
      · obtain ⟨s0, s1, s2, z, rest⟩ := R18.ex
        have := rest.2.2.2.2
        exact ⟨s0, s1, s2, by rw [upd_ne nD3a.symm]; exact z, rest.1, rest.2.1, rest.2.2.1, rest.2.2.2.1, by omega⟩
      · rw [List.length_append]
        show us.length + 1 ≤ i + 1
        omega
      · exact (DxAll.kx upk _ _ (DxAll.kx (nYa kx18) _ _ hdx)).app (.cons (Dx.kx upk _ _ hd') .nil)
      · intro e he
        rcases List.mem_append.mp he with he | he
        · exact hok e he
        · rw [List.mem_singleton.mp he]; exact ⟨hl, hsh⟩
    obtain ⟨kx17, R17, us, dd, hus, hul, hdx, hok⟩ := p
    have hul : us.length ≤ 8 := hul
    have B17 := B16.kx kx17
    have hb17 := kx17 _ _ nba hb16
    have hd17 := kx17 _ _ nD2a hd16
    have nD23 : D2 ≠ D3 := fun z => by rw [z, hD3] at hd16; cases hd16
    clear B16 hb16 hd16 hk16 R16 kx17
    -- all told
    refine ⟨_, rfl, _, rfl, b, _, rfl, .inl (SqL.of hb17), _, rfl, ?_⟩
    refine ⟨RgOk.of_le (by omega) (by rw [List.length_map]; omega) (by omega) (by omega), fun s3 hs3 => ?_⟩
    have er : rgV 0 ((bs.map V.int).length : Int) = (List.range bs.length).map nV := by
      unfold rgV
      rw [List.length_map, Int.sub_zero, Int.toNat_natCast]
      refine List.map_congr_left fun i _ => ?_
      show V.int (0 + (i : Int)) = V.int (i : Int)
      rw [Int.zero_add]
    rw [er]
    have S1 := same_new (o := .lst ((List.range bs.length).map nV)) hs3
    have e1 := new_at (o := .lst ((List.range bs.length).map nV)) hs3
    have n3 : ¬ (s3 = a ∨ s3 = D3) := by
      rintro (z | z)
      · exact (R17.new hs3) z.symm
      · rw [z, hus] at hs3; cases hs3
    generalize (upd H17 s3 (.lst ((List.range bs.length).map nV))) = H18 at S1 e1 ⊢
    refine ⟨by show 2 ≤ sizeLine; decide, fun w1 hw1 => ?_⟩
    have S2 := same_new (o := .lst [.ref D2, .ref s3]) hw1
    have e2 := new_at (o := .lst [.ref D2, .ref s3]) hw1
    generalize (upd H18 w1 (.lst [V.ref D2, .ref s3])) = H19 at S2 e2 ⊢
    have S12 := S1.trans S2
    refine ⟨_, rfl, w1, D3, _, _, rfl, rfl, e2, S12 _ _ hus, Nat.le_of_lt (small1000 (by show 2 + us.length ≤ 1000; omega)), fun L9 hL9 => ?_⟩
    have S3 := same_new (o := .lst ([.ref D2, .ref s3] ++ us)) hL9
    have e3 := new_at (o := .lst ([.ref D2, .ref s3] ++ us)) hL9
    have S := S12.trans S3
    have n2 : ¬ (D2 = a ∨ D2 = D3) := by
      rintro (z | z)
      · exact nD2a z
      · exact nD23 z
    have items : ∀ x ∈ [V.ref D2, .ref s3] ++ us, ∃ d, Dx (fun c => c = a ∨ c = D3) (upd H19 L9 (.lst ([.ref D2, .ref s3] ++ us))) x d ∧ lenD d ≤ 60 ∧ Sho d := fun x hx => by
      rcases List.mem_append.mp hx with hx | hx
      · simp only [List.mem_cons, List.not_mem_nil, or_false] at hx
        rcases hx with rfl | rfl
        · exact ⟨_, dx_lst n2 (S _ _ hd17), klen (by omega), sho_nats (by omega) fun x hx => by have := hdlt x hx; omega⟩
        · exact ⟨_, dx_lst n3 (S3 _ _ (S2 _ _ e1)), klen (by rw [List.length_range]; omega), sho_nats (by rw [List.length_range]; omega) fun x hx => by have := List.mem_range.mp hx; omega⟩
      · obtain ⟨d, hd, h⟩ := (hdx.same S).mem hx
        exact ⟨d, h, hok d hd⟩
    generalize (upd H19 L9 (.lst ([V.ref D2, .ref s3] ++ us))) = H20 at S3 e3 S items ⊢
    have B20 := B17.same S
    have hb20 := S _ _ hb17
    clear S1 S2 S3 S12 e1 e2 hs3 hw1 hL9 S B17 hb17 hd17 hdx hus
    refine ⟨L9, rfl, ⟨_, SqL.of e3⟩, for_list (a := L9) (xs := [V.ref D2, .ref s3] ++ us) (fun i σ H' => (∃ w9 w11 w12, σ = [some (.ref sc), some (.int c), some (.ref a), some (.ref g), some (.int (m : Int)), some (.ref p), some (.ref b), some (.ref D), some (.ref D2), w9, some (.ref D3), w11, w12, none, none, none]) ∧ Same H20 H') ⟨⟨_, _, _, rfl⟩, Same.refl _⟩ (fun i σ H' _ z => SqL.of (z.2 _ _ e3)) ?_ ?_⟩
    · rintro i x σ H21 hx ⟨⟨x9, x11, x12, rfl⟩, S21⟩
      obtain ⟨d, hdx, hl, hsh⟩ := items x (List.mem_of_getElem? hx)
      have B21 := B20.same S21
      have hb21 := S21 _ _ hb20
      have hdx1 := hdx.same S21
      refine ⟨_, rfl, x, _, d, rfl, hdx1, hsh, ?_⟩
      refine ⟨_, rfl, _, rfl, _, rfl, p, g2, t0, o, b, x, gs, m, bs, _, d, rfl, B21.R, hb21, hb1, by omega, hdx1, hl, fun r H22 hr22 S22 => ?_⟩
      have hdx2 := hdx1.same S22
      refine ⟨_, rfl, _, rfl, _, rfl, _, rfl, _, rfl, g, b, x, gs, m, bs, _, d, rfl, S22 _ _ B21.hg, okG, hm1, hm2, S22 _ _ hb21, by omega, hdx2, hl, fun r' H23 hr23 S23 => ?_⟩
      obtain rfl : r' = r := Bool.eq_iff_iff.mpr (hr23.trans hr22.symm)
      refine ⟨_, _, .bl _, .bl _, rfl, rfl, _, rfl, iteFb (by cases r' <;> rfl) ?_⟩
      refine ⟨_, rfl, _, _, _, _, _, rfl, .ty _, .base (.bl _), kit_ty (r := true) (by decide +kernel), true, rfl, iteF ?_⟩
      refine ⟨_, rfl, x, _, d, rfl, hdx2.same S23, hsh, _, rfl, rfl, _, rfl, iteFb (by rw [decide_eq_true rfl]; rfl) ?_⟩
      exact ⟨⟨_, _, _, rfl⟩, (S21.trans S22).trans S23⟩
    rintro σ H21 ⟨⟨x9, x11, x12, rfl⟩, S21⟩
    exact ⟨⟨_, _, _, _, _, _, _, _, _, _, _, _, rfl⟩, S21 _ _ B20.hL⟩
end
end RS
namespace RS
open PySem L2
/-! ### what the top has written -/
theorem all_mk {l : PySem.W.OpenLaw} {w : World} {K : PySem.W.Frag} {h : Heap} {mg : Str → Option Value} {fa : Addr}  (X : K.In h) (G : h.Ns mainGlobals mg) (hfa : mg "law" = some (.ref fa)) (hlong : ∃ t, mg "_LONGEST_GAP" = some (.int 1000000000000 t))
    {fa0 : Addr} {oda0 ana0 : Option Addr} {sla0 : Array (Option Value)} {oca0 kVa0 dca0 pma0 cta0 : Value}
    {cda0 : Value}
    {fa1 : Addr} {oda1 ana1 : Option Addr} {sla1 : Array (Option Value)} {oca1 kVa1 dca1 pma1 cta1 : Value}
    {cda1 : Value}
    {fa2 : Addr} {oda2 ana2 : Option Addr} {sla2 : Array (Option Value)} {oca2 kVa2 dca2 pma2 cta2 : Value}
    {cda2 : Value}
    {fa3 : Addr} {oda3 ana3 : Option Addr} {sla3 : Array (Option Value)} {oca3 kVa3 dca3 pma3 cta3 : Value}
    {cda3 : Value}
    {fa4 : Addr} {oda4 ana4 : Option Addr} {sla4 : Array (Option Value)} {oca4 kVa4 dca4 pma4 cta4 : Value}
    {cda4 : Value}
    {fr6 : Addr} {odr6 anr6 : Option Addr} {slr6 : Array (Option Value)} {ocr6 kVr6 dcr6 pmr6 ctr6 : Value}
    {cdr6 : Value}
    {fr8 : Addr} {odr8 anr8 : Option Addr} {slr8 : Array (Option Value)} {ocr8 kVr8 dcr8 pmr8 ctr8 : Value}
    {cdr8 : Value}
    {fr9 : Addr} {odr9 anr9 : Option Addr} {slr9 : Array (Option Value)} {ocr9 kVr9 dcr9 pmr9 ctr9 : Value}
    {cdr9 : Value}
    {fr10 : Addr} {odr10 anr10 : Option Addr} {slr10 : Array (Option Value)} {ocr10 kVr10 dcr10 pmr10 ctr10 : Value}
    {cdr10 : Value}
    {fa12 : Addr} {oda12 ana12 : Option Addr} {sla12 : Array (Option Value)} {oca12 kVa12 dca12 pma12 cta12 : Value}
    {cda12 : Value}
    {fa13 : Addr} {oda13 ana13 : Option Addr} {sla13 : Array (Option Value)} {oca13 kVa13 dca13 pma13 cta13 : Value}
    {cda13 : Value}
    {fa14 : Addr} {oda14 ana14 : Option Addr} {sla14 : Array (Option Value)} {oca14 kVa14 dca14 pma14 cta14 : Value}
    {cda14 : Value}
    {fa15 : Addr} {oda15 ana15 : Option Addr} {sla15 : Array (Option Value)} {oca15 kVa15 dca15 pma15 cta15 : Value}
    {cda15 : Value}
    {fa16 : Addr} {oda16 ana16 : Option Addr} {sla16 : Array (Option Value)} {oca16 kVa16 dca16 pma16 cta16 : Value}
    {cda16 : Value}
    {fa17 : Addr} {oda17 ana17 : Option Addr} {sla17 : Array (Option Value)} {oca17 kVa17 dca17 pma17 cta17 : Value}
    {cda17 : Value}
    {fa18 : Addr} {oda18 ana18 : Option Addr} {sla18 : Array (Option Value)} {oca18 kVa18 dca18 pma18 cta18 : Value}
    {cda18 : Value}
    {fa19 : Addr} {oda19 ana19 : Option Addr} {sla19 : Array (Option Value)} {oca19 kVa19 dca19 pma19 cta19 : Value}
    {cda19 : Value}
    {fa20 : Addr} {oda20 ana20 : Option Addr} {sla20 : Array (Option Value)} {oca20 kVa20 dca20 pma20 cta20 : Value}
    {cda20 : Value}
    {fa21 : Addr} {oda21 ana21 : Option Addr} {sla21 : Array (Option Value)} {oca21 kVa21 dca21 pma21 cta21 : Value}
    {cda21 : Value}
    {fa22 : Addr} {oda22 ana22 : Option Addr} {sla22 : Array (Option Value)} {oca22 kVa22 dca22 pma22 cta22 : Value}
    {cda22 : Value}
    {fa23 : Addr} {oda23 ana23 : Option Addr} {sla23 : Array (Option Value)} {oca23 kVa23 dca23 pma23 cta23 : Value}
    {cda23 : Value}
    {fa24 : Addr} {oda24 ana24 : Option Addr} {sla24 : Array (Option Value)} {oca24 kVa24 dca24 pma24 cta24 : Value}
    {cda24 : Value}
    {fa25 : Addr} {oda25 ana25 : Option Addr} {sla25 : Array (Option Value)} {oca25 kVa25 dca25 pma25 cta25 : Value}
    {cda25 : Value}
    {fa26 : Addr} {oda26 ana26 : Option Addr} {sla26 : Array (Option Value)} {oca26 kVa26 dca26 pma26 cta26 : Value}
    {cda26 : Value}
    {fa27 : Addr} {oda27 ana27 : Option Addr} {sla27 : Array (Option Value)} {oca27 kVa27 dca27 pma27 cta27 : Value}
    {cda27 : Value}
    {fa28 : Addr} {oda28 ana28 : Option Addr} {sla28 : Array (Option Value)} {oca28 kVa28 dca28 pma28 cta28 : Value}
    {cda28 : Value}
    {fa29 : Addr} {oda29 ana29 : Option Addr} {sla29 : Array (Option Value)} {oca29 kVa29 dca29 pma29 cta29 : Value}
    {cda29 : Value}
    {fa30 : Addr} {oda30 ana30 : Option Addr} {sla30 : Array (Option Value)} {oca30 kVa30 dca30 pma30 cta30 : Value}
    {cda30 : Value}
    {fa31 : Addr} {oda31 ana31 : Option Addr} {sla31 : Array (Option Value)} {oca31 kVa31 dca31 pma31 cta31 : Value}
    {cda31 : Value}
    {fa32 : Addr} {oda32 ana32 : Option Addr} {sla32 : Array (Option Value)} {oca32 kVa32 dca32 pma32 cta32 : Value}
    {cda32 : Value}
    {fa33 : Addr} {oda33 ana33 : Option Addr} {sla33 : Array (Option Value)} {oca33 kVa33 dca33 pma33 cta33 : Value}
    {cda33 : Value}
    {fa34 : Addr} {oda34 ana34 : Option Addr} {sla34 : Array (Option Value)} {oca34 kVa34 dca34 pma34 cta34 : Value}
    {cda34 : Value}
    {C : Addr}
    {tM : Tok}
    {tF : Tok}
    {tL : Tok}
    {tC : Tok}
    (Aa0 : PySem.W.nsIn K mainGlobals "law" = some (some (.ref fa0)))
    (La0 : K.lookup fa0 = some ⟨oca0, oda0, .func (PySem.W.fnOf "law" "law" (defArgs s_law) (defBody s_law) (defScope s_law) .none kVa0 dca0 pma0 ana0 cda0 cta0), sla0⟩) (Ca0 : PySem.W.codeIn K cda0 "law" = true) (Ka0 : PySem.W.keepIn K (.ref fa0) = true)
    (Aa1 : PySem.W.nsIn K mainGlobals "is_integer" = some (some (.ref fa1)))
    (La1 : K.lookup fa1 = some ⟨oca1, oda1, .func (PySem.W.fnOf "is_integer" "is_integer" (defArgs s_is_integer) (defBody s_is_integer) (defScope s_is_integer) .none kVa1 dca1 pma1 ana1 cda1 cta1), sla1⟩) (Ca1 : PySem.W.codeIn K cda1 "is_integer" = true) (Ka1 : PySem.W.keepIn K (.ref fa1) = true)
    (Aa2 : PySem.W.nsIn K mainGlobals "are_gaps" = some (some (.ref fa2)))
    (La2 : K.lookup fa2 = some ⟨oca2, oda2, .func (PySem.W.fnOf "are_gaps" "are_gaps" (defArgs s_are_gaps) (defBody s_are_gaps) (defScope s_are_gaps) .none kVa2 dca2 pma2 ana2 cda2 cta2), sla2⟩) (Ca2 : PySem.W.codeIn K cda2 "are_gaps" = true) (Ka2 : PySem.W.keepIn K (.ref fa2) = true)
    (Aa3 : PySem.W.nsIn K mainGlobals "_is_tail" = some (some (.ref fa3)))
    (La3 : K.lookup fa3 = some ⟨oca3, oda3, .func (PySem.W.fnOf "_is_tail" "_is_tail" (defArgs s_is_tail) (defBody s_is_tail) (defScope s_is_tail) .none kVa3 dca3 pma3 ana3 cda3 cta3), sla3⟩) (Ca3 : PySem.W.codeIn K cda3 "_is_tail" = true) (Ka3 : PySem.W.keepIn K (.ref fa3) = true)
    (Aa4 : PySem.W.nsIn K mainGlobals "sums" = some (some (.ref fa4)))
    (La4 : K.lookup fa4 = some ⟨oca4, oda4, .func (PySem.W.fnOf "sums" "sums" (defArgs s_sums) (defBody s_sums) (defScope s_sums) .none kVa4 dca4 pma4 ana4 cda4 cta4), sla4⟩) (Ca4 : PySem.W.codeIn K cda4 "sums" = true) (Ka4 : PySem.W.keepIn K (.ref fa4) = true)
    (Ar6 : PySem.W.findIn K (.ref C) "__init__" = some (some (.ref fr6))) (Ir6 : PySem.W.isFn K (.ref fr6) = true)
    (Lr6 : K.lookup fr6 = some ⟨ocr6, odr6, .func (PySem.W.fnOf "__init__" "Rule.__init__" (defArgs s_Rule_ddinitdd) (defBody s_Rule_ddinitdd) (defScope s_Rule_ddinitdd) .none kVr6 dcr6 pmr6 anr6 cdr6 ctr6), slr6⟩) (Cr6 : PySem.W.codeIn K cdr6 "Rule.__init__" = true) (Kr6 : PySem.W.keepIn K (.ref fr6) = true)
    (Ar8 : PySem.W.findIn K (.ref C) "first_repeating" = some (some (.ref fr8))) (Ir8 : PySem.W.isFn K (.ref fr8) = true)
    (Lr8 : K.lookup fr8 = some ⟨ocr8, odr8, .func (PySem.W.fnOf "first_repeating" "Rule.first_repeating" (defArgs s_Rule_first_repeating) (defBody s_Rule_first_repeating) (defScope s_Rule_first_repeating) .none kVr8 dcr8 pmr8 anr8 cdr8 ctr8), slr8⟩) (Cr8 : PySem.W.codeIn K cdr8 "Rule.first_repeating" = true) (Kr8 : PySem.W.keepIn K (.ref fr8) = true)
    (Ar9 : PySem.W.findIn K (.ref C) "period" = some (some (.ref fr9))) (Ir9 : PySem.W.isFn K (.ref fr9) = true)
    (Lr9 : K.lookup fr9 = some ⟨ocr9, odr9, .func (PySem.W.fnOf "period" "Rule.period" (defArgs s_Rule_period) (defBody s_Rule_period) (defScope s_Rule_period) .none kVr9 dcr9 pmr9 anr9 cdr9 ctr9), slr9⟩) (Cr9 : PySem.W.codeIn K cdr9 "Rule.period" = true) (Kr9 : PySem.W.keepIn K (.ref fr9) = true)
    (Ar10 : PySem.W.findIn K (.ref C) "gaps" = some (some (.ref fr10))) (Ir10 : PySem.W.isFn K (.ref fr10) = true)
    (Lr10 : K.lookup fr10 = some ⟨ocr10, odr10, .func (PySem.W.fnOf "gaps" "Rule.gaps" (defArgs s_Rule_gaps) (defBody s_Rule_gaps) (defScope s_Rule_gaps) .none kVr10 dcr10 pmr10 anr10 cdr10 ctr10), slr10⟩) (Cr10 : PySem.W.codeIn K cdr10 "Rule.gaps" = true) (Kr10 : PySem.W.keepIn K (.ref fr10) = true)
    (Aa12 : PySem.W.nsIn K mainGlobals "_law_source_of" = some (some (.ref fa12)))
    (La12 : K.lookup fa12 = some ⟨oca12, oda12, .func (PySem.W.fnOf "_law_source_of" "_law_source_of" (defArgs s_law_source_of) (defBody s_law_source_of) (defScope s_law_source_of) .none kVa12 dca12 pma12 ana12 cda12 cta12), sla12⟩) (Ca12 : PySem.W.codeIn K cda12 "_law_source_of" = true) (Ka12 : PySem.W.keepIn K (.ref fa12) = true)
    (Aa13 : PySem.W.nsIn K mainGlobals "_law_draw" = some (some (.ref fa13)))
    (La13 : K.lookup fa13 = some ⟨oca13, oda13, .func (PySem.W.fnOf "_law_draw" "_law_draw" (defArgs s_law_draw) (defBody s_law_draw) (defScope s_law_draw) .none kVa13 dca13 pma13 ana13 cda13 cta13), sla13⟩) (Ca13 : PySem.W.codeIn K cda13 "_law_draw" = true) (Ka13 : PySem.W.keepIn K (.ref fa13) = true)
    (Aa14 : PySem.W.nsIn K mainGlobals "_law_choice" = some (some (.ref fa14)))
    (La14 : K.lookup fa14 = some ⟨oca14, oda14, .func (PySem.W.fnOf "_law_choice" "_law_choice" (defArgs s_law_choice) (defBody s_law_choice) (defScope s_law_choice) .none kVa14 dca14 pma14 ana14 cda14 cta14), sla14⟩) (Ca14 : PySem.W.codeIn K cda14 "_law_choice" = true) (Ka14 : PySem.W.keepIn K (.ref fa14) = true)
    (Aa15 : PySem.W.nsIn K mainGlobals "_law_cell_at" = some (some (.ref fa15)))
    (La15 : K.lookup fa15 = some ⟨oca15, oda15, .func (PySem.W.fnOf "_law_cell_at" "_law_cell_at" (defArgs s_law_cell_at) (defBody s_law_cell_at) (defScope s_law_cell_at) .none kVa15 dca15 pma15 ana15 cda15 cta15), sla15⟩) (Ca15 : PySem.W.codeIn K cda15 "_law_cell_at" = true) (Ka15 : PySem.W.keepIn K (.ref fa15) = true)
    (Aa16 : PySem.W.nsIn K mainGlobals "check_starts" = some (some (.ref fa16)))
    (La16 : K.lookup fa16 = some ⟨oca16, oda16, .func (PySem.W.fnOf "check_starts" "check_starts" (defArgs s_check_starts) (defBody s_check_starts) (defScope s_check_starts) .none kVa16 dca16 pma16 ana16 cda16 cta16), sla16⟩) (Ca16 : PySem.W.codeIn K cda16 "check_starts" = true) (Ka16 : PySem.W.keepIn K (.ref fa16) = true)
    (Aa17 : PySem.W.nsIn K mainGlobals "listed_offsets" = some (some (.ref fa17)))
    (La17 : K.lookup fa17 = some ⟨oca17, oda17, .func (PySem.W.fnOf "listed_offsets" "listed_offsets" (defArgs s_listed_offsets) (defBody s_listed_offsets) (defScope s_listed_offsets) .none kVa17 dca17 pma17 ana17 cda17 cta17), sla17⟩) (Ca17 : PySem.W.codeIn K cda17 "listed_offsets" = true) (Ka17 : PySem.W.keepIn K (.ref fa17) = true)
    (Aa18 : PySem.W.nsIn K mainGlobals "repeating_offsets" = some (some (.ref fa18)))
    (La18 : K.lookup fa18 = some ⟨oca18, oda18, .func (PySem.W.fnOf "repeating_offsets" "repeating_offsets" (defArgs s_repeating_offsets) (defBody s_repeating_offsets) (defScope s_repeating_offsets) .none kVa18 dca18 pma18 ana18 cda18 cta18), sla18⟩) (Ca18 : PySem.W.codeIn K cda18 "repeating_offsets" = true) (Ka18 : PySem.W.keepIn K (.ref fa18) = true)
    (Aa19 : PySem.W.nsIn K mainGlobals "_residues" = some (some (.ref fa19)))
    (La19 : K.lookup fa19 = some ⟨oca19, oda19, .func (PySem.W.fnOf "_residues" "_residues" (defArgs s_residues) (defBody s_residues) (defScope s_residues) .none kVa19 dca19 pma19 ana19 cda19 cta19), sla19⟩) (Ca19 : PySem.W.codeIn K cda19 "_residues" = true) (Ka19 : PySem.W.keepIn K (.ref fa19) = true)
    (Aa20 : PySem.W.nsIn K mainGlobals "_residue_table" = some (some (.ref fa20)))
    (La20 : K.lookup fa20 = some ⟨oca20, oda20, .func (PySem.W.fnOf "_residue_table" "_residue_table" (defArgs s_residue_table) (defBody s_residue_table) (defScope s_residue_table) .none kVa20 dca20 pma20 ana20 cda20 cta20), sla20⟩) (Ca20 : PySem.W.codeIn K cda20 "_residue_table" = true) (Ka20 : PySem.W.keepIn K (.ref fa20) = true)
    (Aa21 : PySem.W.nsIn K mainGlobals "_greatest_closed" = some (some (.ref fa21)))
    (La21 : K.lookup fa21 = some ⟨oca21, oda21, .func (PySem.W.fnOf "_greatest_closed" "_greatest_closed" (defArgs s_greatest_closed) (defBody s_greatest_closed) (defScope s_greatest_closed) .none kVa21 dca21 pma21 ana21 cda21 cta21), sla21⟩) (Ca21 : PySem.W.codeIn K cda21 "_greatest_closed" = true) (Ka21 : PySem.W.keepIn K (.ref fa21) = true)
    (Aa22 : PySem.W.nsIn K mainGlobals "_partners" = some (some (.ref fa22)))
    (La22 : K.lookup fa22 = some ⟨oca22, oda22, .func (PySem.W.fnOf "_partners" "_partners" (defArgs s_partners) (defBody s_partners) (defScope s_partners) .none kVa22 dca22 pma22 ana22 cda22 cta22), sla22⟩) (Ca22 : PySem.W.codeIn K cda22 "_partners" = true) (Ka22 : PySem.W.keepIn K (.ref fa22) = true)
    (Aa23 : PySem.W.nsIn K mainGlobals "_check_repeating" = some (some (.ref fa23)))
    (La23 : K.lookup fa23 = some ⟨oca23, oda23, .func (PySem.W.fnOf "_check_repeating" "_check_repeating" (defArgs s_check_repeating) (defBody s_check_repeating) (defScope s_check_repeating) .none kVa23 dca23 pma23 ana23 cda23 cta23), sla23⟩) (Ca23 : PySem.W.codeIn K cda23 "_check_repeating" = true) (Ka23 : PySem.W.keepIn K (.ref fa23) = true)
    (Aa24 : PySem.W.nsIn K mainGlobals "_check_clients" = some (some (.ref fa24)))
    (La24 : K.lookup fa24 = some ⟨oca24, oda24, .func (PySem.W.fnOf "_check_clients" "_check_clients" (defArgs s_check_clients) (defBody s_check_clients) (defScope s_check_clients) .none kVa24 dca24 pma24 ana24 cda24 cta24), sla24⟩) (Ca24 : PySem.W.codeIn K cda24 "_check_clients" = true) (Ka24 : PySem.W.keepIn K (.ref fa24) = true)
    (Aa25 : PySem.W.nsIn K mainGlobals "_are_ascending" = some (some (.ref fa25)))
    (La25 : K.lookup fa25 = some ⟨oca25, oda25, .func (PySem.W.fnOf "_are_ascending" "_are_ascending" (defArgs s_are_ascending) (defBody s_are_ascending) (defScope s_are_ascending) .none kVa25 dca25 pma25 ana25 cda25 cta25), sla25⟩) (Ca25 : PySem.W.codeIn K cda25 "_are_ascending" = true) (Ka25 : PySem.W.keepIn K (.ref fa25) = true)
    (Aa26 : PySem.W.nsIn K mainGlobals "blocked_clients" = some (some (.ref fa26)))
    (La26 : K.lookup fa26 = some ⟨oca26, oda26, .func (PySem.W.fnOf "blocked_clients" "blocked_clients" (defArgs s_blocked_clients) (defBody s_blocked_clients) (defScope s_blocked_clients) .none kVa26 dca26 pma26 ana26 cda26 cta26), sla26⟩) (Ca26 : PySem.W.codeIn K cda26 "blocked_clients" = true) (Ka26 : PySem.W.keepIn K (.ref fa26) = true)
    (Aa27 : PySem.W.nsIn K mainGlobals "_law_repeating" = some (some (.ref fa27)))
    (La27 : K.lookup fa27 = some ⟨oca27, oda27, .func (PySem.W.fnOf "_law_repeating" "_law_repeating" (defArgs s_law_repeating) (defBody s_law_repeating) (defScope s_law_repeating) .none kVa27 dca27 pma27 ana27 cda27 cta27), sla27⟩) (Ca27 : PySem.W.codeIn K cda27 "_law_repeating" = true) (Ka27 : PySem.W.keepIn K (.ref fa27) = true)
    (Aa28 : PySem.W.nsIn K mainGlobals "_law_residues" = some (some (.ref fa28)))
    (La28 : K.lookup fa28 = some ⟨oca28, oda28, .func (PySem.W.fnOf "_law_residues" "_law_residues" (defArgs s_law_residues) (defBody s_law_residues) (defScope s_law_residues) .none kVa28 dca28 pma28 ana28 cda28 cta28), sla28⟩) (Ca28 : PySem.W.codeIn K cda28 "_law_residues" = true) (Ka28 : PySem.W.keepIn K (.ref fa28) = true)
    (Aa29 : PySem.W.nsIn K mainGlobals "_law_starts" = some (some (.ref fa29)))
    (La29 : K.lookup fa29 = some ⟨oca29, oda29, .func (PySem.W.fnOf "_law_starts" "_law_starts" (defArgs s_law_starts) (defBody s_law_starts) (defScope s_law_starts) .none kVa29 dca29 pma29 ana29 cda29 cta29), sla29⟩) (Ca29 : PySem.W.codeIn K cda29 "_law_starts" = true) (Ka29 : PySem.W.keepIn K (.ref fa29) = true)
    (Aa30 : PySem.W.nsIn K mainGlobals "_law_closed" = some (some (.ref fa30)))
    (La30 : K.lookup fa30 = some ⟨oca30, oda30, .func (PySem.W.fnOf "_law_closed" "_law_closed" (defArgs s_law_closed) (defBody s_law_closed) (defScope s_law_closed) .none kVa30 dca30 pma30 ana30 cda30 cta30), sla30⟩) (Ca30 : PySem.W.codeIn K cda30 "_law_closed" = true) (Ka30 : PySem.W.keepIn K (.ref fa30) = true)
    (Aa31 : PySem.W.nsIn K mainGlobals "is_closed" = some (some (.ref fa31)))
    (La31 : K.lookup fa31 = some ⟨oca31, oda31, .func (PySem.W.fnOf "is_closed" "is_closed" (defArgs s_is_closed) (defBody s_is_closed) (defScope s_is_closed) .none kVa31 dca31 pma31 ana31 cda31 cta31), sla31⟩) (Ca31 : PySem.W.codeIn K cda31 "is_closed" = true) (Ka31 : PySem.W.keepIn K (.ref fa31) = true)
    (Aa32 : PySem.W.nsIn K mainGlobals "_law_due" = some (some (.ref fa32)))
    (La32 : K.lookup fa32 = some ⟨oca32, oda32, .func (PySem.W.fnOf "_law_due" "_law_due" (defArgs s_law_due) (defBody s_law_due) (defScope s_law_due) .none kVa32 dca32 pma32 ana32 cda32 cta32), sla32⟩) (Ca32 : PySem.W.codeIn K cda32 "_law_due" = true) (Ka32 : PySem.W.keepIn K (.ref fa32) = true)
    (Aa33 : PySem.W.nsIn K mainGlobals "_law_doubled_right" = some (some (.ref fa33)))
    (La33 : K.lookup fa33 = some ⟨oca33, oda33, .func (PySem.W.fnOf "_law_doubled_right" "_law_doubled_right" (defArgs s_law_doubled_right) (defBody s_law_doubled_right) (defScope s_law_doubled_right) .none kVa33 dca33 pma33 ana33 cda33 cta33), sla33⟩) (Ca33 : PySem.W.codeIn K cda33 "_law_doubled_right" = true) (Ka33 : PySem.W.keepIn K (.ref fa33) = true)
    (Aa34 : PySem.W.nsIn K mainGlobals "_law_changed" = some (some (.ref fa34)))
    (La34 : K.lookup fa34 = some ⟨oca34, oda34, .func (PySem.W.fnOf "_law_changed" "_law_changed" (defArgs s_law_changed) (defBody s_law_changed) (defScope s_law_changed) .none kVa34 dca34 pma34 ana34 cda34 cta34), sla34⟩) (Ca34 : PySem.W.codeIn K cda34 "_law_changed" = true) (Ka34 : PySem.W.keepIn K (.ref fa34) = true)
    (aC : PySem.W.nsIn K mainGlobals "Rule" = some (some (.ref C)))
    (pg : PySem.W.plainGet K C Str.empty = true)
    (hd : PySem.W.hasDictIn K C = true)
    (po : PySem.W.plainOver K C = true)
    (sa : PySem.W.findIn K (.ref C) "__setattr__" = some (some (.builtin "object.__setattr__")))
    (mk : PySem.W.makesIn K C = true)
    (kc : PySem.W.keepIn K (.ref C) = true)
    (n0 : PySem.W.findIn K (.ref C) "_gaps" = some none)
    (n1 : PySem.W.findIn K (.ref C) "_tail" = some none)
    (n2 : PySem.W.findIn K (.ref C) "_offsets" = some none)
    (z_len : PySem.W.nsIn K mainGlobals "len" = some none)
    (z_isinstance : PySem.W.nsIn K mainGlobals "isinstance" = some none)
    (z_int : PySem.W.nsIn K mainGlobals "int" = some none)
    (z_bool : PySem.W.nsIn K mainGlobals "bool" = some none)
    (z_list : PySem.W.nsIn K mainGlobals "list" = some none)
    (z_tuple : PySem.W.nsIn K mainGlobals "tuple" = some none)
    (z_str : PySem.W.nsIn K mainGlobals "str" = some none)
    (z_all : PySem.W.nsIn K mainGlobals "all" = some none)
    (z_range : PySem.W.nsIn K mainGlobals "range" = some none)
    (z_divmod : PySem.W.nsIn K mainGlobals "divmod" = some none)
    (z_sum : PySem.W.nsIn K mainGlobals "sum" = some none)
    (z_max : PySem.W.nsIn K mainGlobals "max" = some none)
    (z_min : PySem.W.nsIn K mainGlobals "min" = some none)
    (z_sorted : PySem.W.nsIn K mainGlobals "sorted" = some none)
    (z_set : PySem.W.nsIn K mainGlobals "set" = some none)
    (z_any : PySem.W.nsIn K mainGlobals "any" = some none)
    (z_enumerate : PySem.W.nsIn K mainGlobals "enumerate" = some none)
    (z_repr : PySem.W.nsIn K mainGlobals "repr" = some none)
    (c_tM : PySem.W.nsIn K mainGlobals "_MOST_GAPS" = some (some (.int 20 tM)))
    (c_tF : PySem.W.nsIn K mainGlobals "_GREATEST_FACTOR" = some (some (.int 1000 tF)))
    (c_tL : PySem.W.nsIn K mainGlobals "LAST_GROWING" = some (some (.int 1000 tL)))
    (c_tC : PySem.W.nsIn K mainGlobals "MOST_CLIENTS" = some (some (.int 40 tC))) :
    LamX.LawCalm l w K 8 63 "_law_script" mg fa h := by
  have e := hfa.symm.trans (PySem.W.mg_of X G Aa0)
  cases e
  have T : Txt K mg C := ⟨⟨pg, hd, po, sa⟩, n0, n1, n2, PySem.W.mg_of X G aC, PySem.W.mg_none_of X G z_len, PySem.W.mg_none_of X G z_isinstance, PySem.W.mg_none_of X G z_int, PySem.W.mg_none_of X G z_bool, PySem.W.mg_none_of X G z_list, PySem.W.mg_none_of X G z_tuple, PySem.W.mg_none_of X G z_str, PySem.W.mg_none_of X G z_all, PySem.W.mg_none_of X G z_range, PySem.W.mg_none_of X G z_divmod, PySem.W.mg_none_of X G z_sum, PySem.W.mg_none_of X G z_max, PySem.W.mg_none_of X G z_min, PySem.W.mg_none_of X G z_sorted, PySem.W.mg_none_of X G z_set, PySem.W.mg_none_of X G z_any, PySem.W.mg_none_of X G z_enumerate, ⟨tM, PySem.W.mg_of X G c_tM⟩, hlong, ⟨tF, PySem.W.mg_of X G c_tF⟩, ⟨tL, PySem.W.mg_of X G c_tL⟩⟩
  have M : Mk K C fr6 := ⟨mk, Ar6, Ir6, kc⟩
  have Fa0 := fun_mk (st := s_law) La0 Ca0 Ka0
  have Fa1 := fun_mk (st := s_is_integer) La1 Ca1 Ka1
  have Fa2 := fun_mk (st := s_are_gaps) La2 Ca2 Ka2
  have Fa3 := fun_mk (st := s_is_tail) La3 Ca3 Ka3
  have Fa4 := fun_mk (st := s_sums) La4 Ca4 Ka4
  have Fr6 := fun_mk (st := s_Rule_ddinitdd) Lr6 Cr6 Kr6
  have Fr8 := fun_mk (st := s_Rule_first_repeating) Lr8 Cr8 Kr8
  have Fr9 := fun_mk (st := s_Rule_period) Lr9 Cr9 Kr9
  have Fr10 := fun_mk (st := s_Rule_gaps) Lr10 Cr10 Kr10
  have Fa12 := fun_mk (st := s_law_source_of) La12 Ca12 Ka12
  have Fa13 := fun_mk (st := s_law_draw) La13 Ca13 Ka13
  have Fa14 := fun_mk (st := s_law_choice) La14 Ca14 Ka14
  have Fa15 := fun_mk (st := s_law_cell_at) La15 Ca15 Ka15
  have Fa16 := fun_mk (st := s_check_starts) La16 Ca16 Ka16
  have Fa17 := fun_mk (st := s_listed_offsets) La17 Ca17 Ka17
  have Fa18 := fun_mk (st := s_repeating_offsets) La18 Ca18 Ka18
  have Fa19 := fun_mk (st := s_residues) La19 Ca19 Ka19
  have Fa20 := fun_mk (st := s_residue_table) La20 Ca20 Ka20
  have Fa21 := fun_mk (st := s_greatest_closed) La21 Ca21 Ka21
  have Fa22 := fun_mk (st := s_partners) La22 Ca22 Ka22
  have Fa23 := fun_mk (st := s_check_repeating) La23 Ca23 Ka23
  have Fa24 := fun_mk (st := s_check_clients) La24 Ca24 Ka24
  have Fa25 := fun_mk (st := s_are_ascending) La25 Ca25 Ka25
  have Fa26 := fun_mk (st := s_blocked_clients) La26 Ca26 Ka26
  have Fa27 := fun_mk (st := s_law_repeating) La27 Ca27 Ka27
  have Fa28 := fun_mk (st := s_law_residues) La28 Ca28 Ka28
  have Fa29 := fun_mk (st := s_law_starts) La29 Ca29 Ka29
  have Fa30 := fun_mk (st := s_law_closed) La30 Ca30 Ka30
  have Fa31 := fun_mk (st := s_is_closed) La31 Ca31 Ka31
  have Fa32 := fun_mk (st := s_law_due) La32 Ca32 Ka32
  have Fa33 := fun_mk (st := s_law_doubled_right) La33 Ca33 Ka33
  have Fa34 := fun_mk (st := s_law_changed) La34 Ca34 Ka34
  have ba1 := Fa1.binds (ps := ["value"]) fun _ _ _ _ _ _ us hl => match us, hl with | [_], _ => rfl
  have ga1 := PySem.W.mg_of X G Aa1
  have ba2 := Fa2.binds (ps := ["value", "most"]) fun _ _ _ _ _ _ us hl => match us, hl with | [_, _], _ => rfl
  have ga2 := PySem.W.mg_of X G Aa2
  have ba3 := Fa3.binds (ps := ["value", "many"]) fun _ _ _ _ _ _ us hl => match us, hl with | [_, _], _ => rfl
  have ga3 := PySem.W.mg_of X G Aa3
  have ba4 := Fa4.binds (ps := ["gaps"]) fun _ _ _ _ _ _ us hl => match us, hl with | [_], _ => rfl
  have ga4 := PySem.W.mg_of X G Aa4
  have br6 := Fr6.binds (ps := ["self", "gaps", "tail"]) fun _ _ _ _ _ _ us hl => match us, hl with | [_, _, _], _ => rfl
  have er6 : Meth K C "__init__" fr6 := ⟨Ar6, Ir6, Kr6⟩
  have br8 := Fr8.binds (ps := ["self"]) fun _ _ _ _ _ _ us hl => match us, hl with | [_], _ => rfl
  have er8 : Meth K C "first_repeating" fr8 := ⟨Ar8, Ir8, Kr8⟩
  have br9 := Fr9.binds (ps := ["self"]) fun _ _ _ _ _ _ us hl => match us, hl with | [_], _ => rfl
  have er9 : Meth K C "period" fr9 := ⟨Ar9, Ir9, Kr9⟩
  have br10 := Fr10.binds (ps := ["self"]) fun _ _ _ _ _ _ us hl => match us, hl with | [_], _ => rfl
  have er10 : Meth K C "gaps" fr10 := ⟨Ar10, Ir10, Kr10⟩
  have ba12 := Fa12.binds (ps := ["_law_cell"]) fun _ _ _ _ _ _ us hl => match us, hl with | [_], _ => rfl
  have ga12 := PySem.W.mg_of X G Aa12
  have ba13 := Fa13.binds (ps := ["_law_source", "_law_bound"]) fun _ _ _ _ _ _ us hl => match us, hl with | [_, _], _ => rfl
  have ga13 := PySem.W.mg_of X G Aa13
  have ba14 := Fa14.binds (ps := ["_law_source", "_law_options"]) fun _ _ _ _ _ _ us hl => match us, hl with | [_, _], _ => rfl
  have ga14 := PySem.W.mg_of X G Aa14
  have ba15 := Fa15.binds (ps := ["_law_script", "_law_index"]) fun _ _ _ _ _ _ us hl => match us, hl with | [_, _], _ => rfl
  have ga15 := PySem.W.mg_of X G Aa15
  have ba16 := Fa16.binds (ps := ["value", "fewest"]) fun _ _ _ _ _ _ us hl => match us, hl with | [_, _], _ => rfl
  have ga16 := PySem.W.mg_of X G Aa16
  have ba17 := Fa17.binds (ps := ["rule"]) fun _ _ _ _ _ _ us hl => match us, hl with | [_], _ => rfl
  have ga17 := PySem.W.mg_of X G Aa17
  have ba18 := Fa18.binds (ps := ["rule"]) fun _ _ _ _ _ _ us hl => match us, hl with | [_], _ => rfl
  have ga18 := PySem.W.mg_of X G Aa18
  have ba19 := Fa19.binds (ps := ["rule", "start"]) fun _ _ _ _ _ _ us hl => match us, hl with | [_, _], _ => rfl
  have ga19 := PySem.W.mg_of X G Aa19
  have ba20 := Fa20.binds (ps := ["rule", "starts"]) fun _ _ _ _ _ _ us hl => match us, hl with | [_, _], _ => rfl
  have ga20 := PySem.W.mg_of X G Aa20
  have ba21 := Fa21.binds (ps := ["table", "clients"]) fun _ _ _ _ _ _ us hl => match us, hl with | [_, _], _ => rfl
  have ga21 := PySem.W.mg_of X G Aa21
  have ba22 := Fa22.binds (ps := ["table", "client", "clients"]) fun _ _ _ _ _ _ us hl => match us, hl with | [_, _, _], _ => rfl
  have ga22 := PySem.W.mg_of X G Aa22
  have ba23 := Fa23.binds (ps := ["rule"]) fun _ _ _ _ _ _ us hl => match us, hl with | [_], _ => rfl
  have ga23 := PySem.W.mg_of X G Aa23
  have ba24 := Fa24.binds (ps := ["rule", "starts"]) fun _ _ _ _ _ _ us hl => match us, hl with | [_, _], _ => rfl
  have ga24 := PySem.W.mg_of X G Aa24
  have ba25 := Fa25.binds (ps := ["value", "many"]) fun _ _ _ _ _ _ us hl => match us, hl with | [_, _], _ => rfl
  have ga25 := PySem.W.mg_of X G Aa25
  have ba26 := Fa26.binds (ps := ["rule", "starts"]) fun _ _ _ _ _ _ us hl => match us, hl with | [_, _], _ => rfl
  have ga26 := PySem.W.mg_of X G Aa26
  have ba27 := Fa27.binds (ps := ["_law_source"]) fun _ _ _ _ _ _ us hl => match us, hl with | [_], _ => rfl
  have ga27 := PySem.W.mg_of X G Aa27
  have ba28 := Fa28.binds (ps := ["_law_gaps", "_law_count", "_law_start"]) fun _ _ _ _ _ _ us hl => match us, hl with | [_, _, _], _ => rfl
  have ga28 := PySem.W.mg_of X G Aa28
  have ba29 := Fa29.binds (ps := ["_law_source", "_law_gaps", "_law_count", "_law_most"]) fun _ _ _ _ _ _ us hl => match us, hl with | [_, _, _, _], _ => rfl
  have ga29 := PySem.W.mg_of X G Aa29
  have ba30 := Fa30.binds (ps := ["_law_gaps", "_law_count", "_law_starts_here", "_law_members"]) fun _ _ _ _ _ _ us hl => match us, hl with | [_, _, _, _], _ => rfl
  have ga30 := PySem.W.mg_of X G Aa30
  have ba31 := Fa31.binds (ps := ["rule", "starts", "value"]) fun _ _ _ _ _ _ us hl => match us, hl with | [_, _, _], _ => rfl
  have ga31 := PySem.W.mg_of X G Aa31
  have ba32 := Fa32.binds (ps := ["_law_gaps", "_law_count", "_law_starts_here", "_law_value"]) fun _ _ _ _ _ _ us hl => match us, hl with | [_, _, _, _], _ => rfl
  have ga32 := PySem.W.mg_of X G Aa32
  have ba33 := Fa33.binds (ps := ["_law_rule", "_law_gaps", "_law_count", "_law_starts_here", "_law_value"]) fun _ _ _ _ _ _ us hl => match us, hl with | [_, _, _, _, _], _ => rfl
  have ga33 := PySem.W.mg_of X G Aa33
  have ba34 := Fa34.binds (ps := ["_law_source", "_law_members", "_law_size"]) fun _ _ _ _ _ _ us hl => match us, hl with | [_, _, _], _ => rfl
  have ga34 := PySem.W.mg_of X G Aa34

  refine ⟨PySem.W.fnOf "law" "law" (defArgs s_law) (defBody s_law) (defScope s_law) .none kVa0 dca0 pma0 ana0 cda0 cta0, [], spLaw K, (fun p hp => by cases hp), fun s v => .of_eq rfl, fun H a ns hn _ hS => ⟨a, ns, rfl, hS, hn, fun _ => rfl⟩, fun base _ _ _ => ?_⟩
  have G0 := ok_isInt (mg := mg) (P := l.prog) (w := w) (base := base) Fa1 T
  have G6 := ok_sums (mg := mg) (P := l.prog) (w := w) (base := base) Fa4
  have G10 := ok_init (mg := mg) (P := l.prog) (w := w) (base := base) Fr6 T Fa1 ba1 ga1 Fa2 ba2 ga2 Fa3 ba3 ga3 Fa4 ba4 ga4
  have G16 := ok_fr (mg := mg) (P := l.prog) (w := w) (base := base) Fr8 T
  have G18 := ok_per (mg := mg) (P := l.prog) (w := w) (base := base) Fr9 T Fr8 br8 er8
  have G20 := ok_gaps (mg := mg) (P := l.prog) (w := w) (base := base) Fr10 T
  have G24 := ok_srcOf (mg := mg) (P := l.prog) (w := w) (base := base) Fa12 T
  have G26 := ok_next (mg := mg) (P := l.prog) (w := w) (base := base) Fa13 T
  have G28 := ok_one (mg := mg) (P := l.prog) (w := w) (base := base) Fa14 T Fa13 ba13 ga13
  have G30 := ok_cell (mg := mg) (P := l.prog) (w := w) (base := base) Fa15 T
  have G32 := ok_chS (mg := mg) (P := l.prog) (w := w) (base := base) Fa16 T ⟨tC, PySem.W.mg_of X G c_tC⟩ G0 ba1 ga1 Ka1
  have G34 := ok_lo (mg := mg) (P := l.prog) (w := w) (base := base) Fa17 T G6 ba4 ga4 Ka4 G20 br10 er10
  have G36 := ok_ro (mg := mg) (P := l.prog) (w := w) (base := base) Fa18 T G34 ba17 ga17 Ka17 G16 br8 er8
  have G38 := ok_res (mg := mg) (P := l.prog) (w := w) (base := base) Fa19 T G36 ba18 ga18 Ka18 G18 br9 er9
  have G40 := ok_tab (mg := mg) (P := l.prog) (w := w) (base := base) Fa20 T G38 ba19 ga19 Ka19
  have G42 := ok_gc (mg := mg) (P := l.prog) (w := w) (base := base) Fa21 T
  have G44 := ok_part (mg := mg) (P := l.prog) (w := w) (base := base) Fa22 T
  have G46 := ok_ckR (mg := mg) (P := l.prog) (w := w) (base := base) Fa23 T G16 br8 er8
  have G48 := ok_ckL (mg := mg) (P := l.prog) (w := w) (base := base) Fa24 T G46 ba23 ga23 Ka23 G32 ba16 ga16 Ka16
  have G52 := ok_blk (mg := mg) (P := l.prog) (w := w) (base := base) Fa26 T G48 ba24 ga24 Ka24 G40 ba20 ga20 Ka20 G42 ba21 ga21 Ka21 G44 ba22 ga22 Ka22
  have G54 := ok_rep (mg := mg) (P := l.prog) (w := w) (base := base) Fa27 T G26 ba13 ga13 Ka13 G28 ba14 ga14 Ka14
  have G56 := ok_lres (mg := mg) (P := l.prog) (w := w) (base := base) Fa28 T
  have G58 := ok_sts (mg := mg) (P := l.prog) (w := w) (base := base) Fa29 T G26 ba13 ga13 Ka13 G28 ba14 ga14 Ka14 G56 ba28 ga28 Ka28
  have G60 := ok_clo (mg := mg) (P := l.prog) (w := w) (base := base) Fa30 T G56 ba28 ga28 Ka28
  have G62 := ok_isAny (mg := mg) (P := l.prog) (w := w) (base := base) Fa1 T
  have G64 := ok_ascD (mg := mg) (P := l.prog) (w := w) (base := base) Fa25 T G62 ba1 ga1 Ka1
  have G66 := ok_isCD (mg := mg) (P := l.prog) (w := w) (base := base) Fa31 T G48 ba24 ga24 Ka24 G40 ba20 ga20 Ka20 G42 ba21 ga21 Ka21 G64 ba25 ga25 Ka25
  have G68 := ok_due (mg := mg) (P := l.prog) (w := w) (base := base) Fa32 T G60 ba30 ga30 Ka30
  have G70 := ok_db (mg := mg) (P := l.prog) (w := w) (base := base) Fa33 T G66 ba31 ga31 Ka31 G68 ba32 ga32 Ka32
  have G72 := ok_chg (mg := mg) (P := l.prog) (w := w) (base := base) Fa34 T G26 ba13 ga13 Ka13 G28 ba14 ga14 Ka14
  exact ok_law (P := l.prog) (w := w) (base := base) Fa0 T (PySem.W.mg_none_of X G z_repr) M G10 br6 G30 ba15 ga15 Ka15 G24 ba12 ga12 Ka12 G26 ba13 ga13 Ka13 G54 ba27 ga27 Ka27 G58 ba29 ga29 Ka29 G72 ba34 ga34 Ka34 G68 ba32 ga32 Ka32 G70 ba33 ga33 Ka33 G52 ba26 ga26 Ka26 G66 ba31 ga31 Ka31
theorem long_of {p : Program} {mg : Str → Option Value} {h : Heap} (x : PySem.W.XL p [("_LONGEST_GAP", .int 1000000000000)] mg h) : ∃ t, mg "_LONGEST_GAP" = some (.int 1000000000000 t) := by
  obtain ⟨v, e, r⟩ := x.2.val _ (List.mem_singleton.mpr rfl)
  cases r
  exact ⟨_, e⟩
end RS
open PySem PySem.W PyProof.Rows
set_option maxRecDepth 100000 in
set_option maxHeartbeats 0 in
theorem PySem.Challenge.cw_retryslots_k69_closed_sets_judged_holds : PySem.Challenge.rw_retryslots_k69_closed_sets_judged.Holds := by
  w_on; o_law; k_head; (case hw => w_witness2)
  k_fill
  refine LamX.walk_calm (l := PySem.Challenge.rw_retryslots_k69_closed_sets_judged) (n := 63) (k := 8) (x := "_law_script") rfl (by decide) rfl ⟨rfl, by decide, by decide⟩ (fun w h Y => PySem.W.kIn_of Y) ?F
  case F =>
    intro w mg fa h Y KX G hmg XX
    refine' RS.all_mk KX G hmg (RS.long_of XX) ?Aa0 ?La0 ?Ca0 ?Ka0 ?Aa1 ?La1 ?Ca1 ?Ka1 ?Aa2 ?La2 ?Ca2 ?Ka2 ?Aa3 ?La3 ?Ca3 ?Ka3 ?Aa4 ?La4 ?Ca4 ?Ka4 ?Ar6 ?Ir6 ?Lr6 ?Cr6 ?Kr6 ?Ar8 ?Ir8 ?Lr8 ?Cr8 ?Kr8 ?Ar9 ?Ir9 ?Lr9 ?Cr9 ?Kr9 ?Ar10 ?Ir10 ?Lr10 ?Cr10 ?Kr10 ?Aa12 ?La12 ?Ca12 ?Ka12 ?Aa13 ?La13 ?Ca13 ?Ka13 ?Aa14 ?La14 ?Ca14 ?Ka14 ?Aa15 ?La15 ?Ca15 ?Ka15 ?Aa16 ?La16 ?Ca16 ?Ka16 ?Aa17 ?La17 ?Ca17 ?Ka17 ?Aa18 ?La18 ?Ca18 ?Ka18 ?Aa19 ?La19 ?Ca19 ?Ka19 ?Aa20 ?La20 ?Ca20 ?Ka20 ?Aa21 ?La21 ?Ca21 ?Ka21 ?Aa22 ?La22 ?Ca22 ?Ka22 ?Aa23 ?La23 ?Ca23 ?Ka23 ?Aa24 ?La24 ?Ca24 ?Ka24 ?Aa25 ?La25 ?Ca25 ?Ka25 ?Aa26 ?La26 ?Ca26 ?Ka26 ?Aa27 ?La27 ?Ca27 ?Ka27 ?Aa28 ?La28 ?Ca28 ?Ka28 ?Aa29 ?La29 ?Ca29 ?Ka29 ?Aa30 ?La30 ?Ca30 ?Ka30 ?Aa31 ?La31 ?Ca31 ?Ka31 ?Aa32 ?La32 ?Ca32 ?Ka32 ?Aa33 ?La33 ?Ca33 ?Ka33 ?Aa34 ?La34 ?Ca34 ?Ka34 ?aC ?pg ?hd ?po ?sa ?mk ?kc ?n0 ?n1 ?n2 ?z_len ?z_isinstance ?z_int ?z_bool ?z_list ?z_tuple ?z_str ?z_all ?z_range ?z_divmod ?z_sum ?z_max ?z_min ?z_sorted ?z_set ?z_any ?z_enumerate ?z_repr ?c_tM ?c_tF ?c_tL ?c_tC
    (case aC => k_is)
    (case Aa0 => k_is)
    (case La0 => k_is)
    (case Ca0 => k_is)
    (case Ka0 => k_is)
    (case Aa1 => k_is)
    (case La1 => k_is)
    (case Ca1 => k_is)
    (case Ka1 => k_is)
    (case Aa2 => k_is)
    (case La2 => k_is)
    (case Ca2 => k_is)
    (case Ka2 => k_is)
    (case Aa3 => k_is)
    (case La3 => k_is)
    (case Ca3 => k_is)
    (case Ka3 => k_is)
    (case Aa4 => k_is)
    (case La4 => k_is)
    (case Ca4 => k_is)
    (case Ka4 => k_is)
    (case Ar6 => k_is)
    (case Ir6 => k_is)
    (case Lr6 => k_is)
    (case Cr6 => k_is)
    (case Kr6 => k_is)
    (case Ar8 => k_is)
    (case Ir8 => k_is)
    (case Lr8 => k_is)
    (case Cr8 => k_is)
    (case Kr8 => k_is)
    (case Ar9 => k_is)
    (case Ir9 => k_is)
    (case Lr9 => k_is)
    (case Cr9 => k_is)
    (case Kr9 => k_is)
    (case Ar10 => k_is)
    (case Ir10 => k_is)
    (case Lr10 => k_is)
    (case Cr10 => k_is)
    (case Kr10 => k_is)
    (case Aa12 => k_is)
    (case La12 => k_is)
    (case Ca12 => k_is)
    (case Ka12 => k_is)
    (case Aa13 => k_is)
    (case La13 => k_is)
    (case Ca13 => k_is)
    (case Ka13 => k_is)
    (case Aa14 => k_is)
    (case La14 => k_is)
    (case Ca14 => k_is)
    (case Ka14 => k_is)
    (case Aa15 => k_is)
    (case La15 => k_is)
    (case Ca15 => k_is)
    (case Ka15 => k_is)
    (case Aa16 => k_is)
    (case La16 => k_is)
    (case Ca16 => k_is)
    (case Ka16 => k_is)
    (case Aa17 => k_is)
    (case La17 => k_is)
    (case Ca17 => k_is)
    (case Ka17 => k_is)
    (case Aa18 => k_is)
    (case La18 => k_is)
    (case Ca18 => k_is)
    (case Ka18 => k_is)
    (case Aa19 => k_is)
    (case La19 => k_is)
    (case Ca19 => k_is)
    (case Ka19 => k_is)
    (case Aa20 => k_is)
    (case La20 => k_is)
    (case Ca20 => k_is)
    (case Ka20 => k_is)
    (case Aa21 => k_is)
    (case La21 => k_is)
    (case Ca21 => k_is)
    (case Ka21 => k_is)
    (case Aa22 => k_is)
    (case La22 => k_is)
    (case Ca22 => k_is)
    (case Ka22 => k_is)
    (case Aa23 => k_is)
    (case La23 => k_is)
    (case Ca23 => k_is)
    (case Ka23 => k_is)
    (case Aa24 => k_is)
    (case La24 => k_is)
    (case Ca24 => k_is)
    (case Ka24 => k_is)
    (case Aa25 => k_is)
    (case La25 => k_is)
    (case Ca25 => k_is)
    (case Ka25 => k_is)
    (case Aa26 => k_is)
    (case La26 => k_is)
    (case Ca26 => k_is)
    (case Ka26 => k_is)
    (case Aa27 => k_is)
    (case La27 => k_is)
    (case Ca27 => k_is)
    (case Ka27 => k_is)
    (case Aa28 => k_is)
    (case La28 => k_is)
    (case Ca28 => k_is)
    (case Ka28 => k_is)
    (case Aa29 => k_is)
    (case La29 => k_is)
    (case Ca29 => k_is)
    (case Ka29 => k_is)
    (case Aa30 => k_is)
    (case La30 => k_is)
    (case Ca30 => k_is)
    (case Ka30 => k_is)
    (case Aa31 => k_is)
    (case La31 => k_is)
    (case Ca31 => k_is)
    (case Ka31 => k_is)
    (case Aa32 => k_is)
    (case La32 => k_is)
    (case Ca32 => k_is)
    (case Ka32 => k_is)
    (case Aa33 => k_is)
    (case La33 => k_is)
    (case Ca33 => k_is)
    (case Ka33 => k_is)
    (case Aa34 => k_is)
    (case La34 => k_is)
    (case Ca34 => k_is)
    (case Ka34 => k_is)
    (case pg => k_is)
    (case hd => k_is)
    (case po => k_is)
    (case sa => k_is)
    (case mk => k_is)
    (case kc => k_is)
    (case n0 => k_is)
    (case n1 => k_is)
    (case n2 => k_is)
    (case z_len => k_is)
    (case z_isinstance => k_is)
    (case z_int => k_is)
    (case z_bool => k_is)
    (case z_list => k_is)
    (case z_tuple => k_is)
    (case z_str => k_is)
    (case z_all => k_is)
    (case z_range => k_is)
    (case z_divmod => k_is)
    (case z_sum => k_is)
    (case z_max => k_is)
    (case z_min => k_is)
    (case z_sorted => k_is)
    (case z_set => k_is)
    (case z_any => k_is)
    (case z_enumerate => k_is)
    (case z_repr => k_is)
    (case c_tM => k_is)
    (case c_tF => k_is)
    (case c_tL => k_is)
    (case c_tC => k_is)

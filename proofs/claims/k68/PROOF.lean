import PyProof.Rows.All
import Wide.All
import OpenK.AllK
import Wide.FinOn
import HandS.ForMost
import HandS.Evl
import HandS.Wide
import HandS.WideBits
import HandS.IsInst
import KE.KEqDeep
import KE.KMinKey
import HandS.Codes
import HandS.OwnEq
import PyProof.InstNe
import HandS.MakeKwOnly
import HandS.SortKw
import HandS.Defaults
import HandS.Exc
import HandS.TryOnly
import HandS.TryMany
import HandS.ExcOwn
import HandS.WordsExc
import HandS.More
import HandS.Lambda
import KE.KExcIs
import HandS.HotCalls
import HandS.ExcInit
import KE.KExcInit
import HandS.Walk
import HandS.Flow
import HandS.Iter
import PyProof.ReprRoads
import HandS.EndTab
import KE.DataFind
import HandS.SetFor
import HandS.Strs
import HandS.SortInts
import HandS.Conv
import PySem.Challenge.RW_retryslots_k68_blocked_clients
set_option Elab.async false
set_option maxRecDepth 100000
set_option maxHeartbeats 2000000
namespace RS
open PySem L2
def top (i : Nat) : Stmt := PySem.Challenge.pw_retryslots_k68_blocked_clients.main.body.getD i (.Pass ⟨0, 0, 0, 0⟩)
abbrev s_wall : Stmt := top 0
abbrev s_InvalidRule_ddinitdd : Stmt := inClass (top 3) 0
abbrev s_InvalidAttempt_ddinitdd : Stmt := inClass (top 4) 0
abbrev s_InvalidScene_ddinitdd : Stmt := inClass (top 5) 0
abbrev s_LimitExceeded_ddinitdd : Stmt := inClass (top 6) 0
abbrev s_is_integer : Stmt := top 8
abbrev s_check_starts : Stmt := top 12
abbrev s_are_gaps : Stmt := top 13
abbrev s_sums : Stmt := top 15
abbrev s_listed_offsets : Stmt := top 16
abbrev s_repeating_offsets : Stmt := top 17
abbrev s_blocked_clients : Stmt := top 19
abbrev s_is_closed : Stmt := top 20
abbrev s_check_repeating : Stmt := top 21
abbrev s_check_clients : Stmt := top 22
abbrev s_are_ascending : Stmt := top 23
abbrev s_residues : Stmt := top 24
abbrev s_residue_table : Stmt := top 25
abbrev s_greatest_closed : Stmt := top 26
abbrev s_partners : Stmt := top 27
abbrev s_Rule_ddinitdd : Stmt := inClass (top 32) 0
abbrev s_Rule_ddeqdd : Stmt := inClass (top 32) 1
abbrev s_Rule_gaps : Stmt := inClass (top 32) 2
abbrev s_Rule_tail : Stmt := inClass (top 32) 3
abbrev s_Rule_attempts : Stmt := inClass (top 32) 4
abbrev s_Rule_gap : Stmt := inClass (top 32) 5
abbrev s_Rule_offset : Stmt := inClass (top 32) 6
abbrev s_Rule_first_from : Stmt := inClass (top 32) 7
abbrev s_Rule_attempt_at : Stmt := inClass (top 32) 8
abbrev s_Rule_period : Stmt := inClass (top 32) 9
abbrev s_Rule_least_gap : Stmt := inClass (top 32) 10
abbrev s_Rule_first_repeating : Stmt := inClass (top 32) 11
abbrev s_Rule_offsets_between : Stmt := inClass (top 32) 12
abbrev s_Rule_check_attempt : Stmt := inClass (top 32) 13
abbrev s_Rule_offset_of : Stmt := inClass (top 32) 14
abbrev s_Rule_first_growing : Stmt := inClass (top 32) 15
abbrev s_Rule_surely_short : Stmt := inClass (top 32) 16
abbrev s_Rule_first_repeated : Stmt := inClass (top 32) 17
abbrev s_is_tail : Stmt := top 33
abbrev s_power : Stmt := top 34
abbrev s_law_cell_at : Stmt := top 36
abbrev s_law_source_of : Stmt := top 37
abbrev s_law_draw : Stmt := top 38
abbrev s_law_choice : Stmt := top 39
abbrev s_law_repeating : Stmt := top 40
abbrev s_law_residues : Stmt := top 41
abbrev s_law_starts : Stmt := top 42
abbrev s_law_closed : Stmt := top 43
abbrev s_law_subsets : Stmt := top 44
abbrev s_law_partners : Stmt := top 45
abbrev s_law : Stmt := top 46
/-! ### what the walk asks of the text's top -/
structure Txt (K : PySem.W.Frag) (mg : Str → Option Value) (C : Addr) : Prop where
  cl : Cls K C
  nG : NoAttr K C "_gaps"
  nT : NoAttr K C "_tail"
  nO : NoAttr K C "_offsets"
  mgC : mg "Rule" = some (.ref C)
  len : mg "len" = none
  isi : mg "isinstance" = none
  int : mg "int" = none
  bool : mg "bool" = none
  list : mg "list" = none
  tuple : mg "tuple" = none
  str : mg "str" = none
  all : mg "all" = none
  range : mg "range" = none
  divmod : mg "divmod" = none
  sum : mg "sum" = none
  max : mg "max" = none
  min : mg "min" = none
  sorted : mg "sorted" = none
  set : mg "set" = none
  any : mg "any" = none
  enum : mg "enumerate" = none
  mMost : ∃ t, mg "_MOST_GAPS" = some (.int 20 t)
  mLong : ∃ t, mg "_LONGEST_GAP" = some (.int 1000000000000 t)
  mFact : ∃ t, mg "_GREATEST_FACTOR" = some (.int 1000 t)
  mLast : ∃ t, mg "LAST_GROWING" = some (.int 1000 t)

/-! ### the data -/
/-- a rule's tail -/
inductive Tl where
  | fin
  | times (b : Int)
  | rep (n : Nat)
def Tl.vs : Tl → List V
  | .fin => [.str "end"]
  | .times b => [.str "times", .int b]
  | .rep n => [.str "repeat", .int (n : Int)]
def GapsOk (gs : List Int) : Prop := gs.length ≤ 20 ∧ ∀ g ∈ gs, 1 ≤ g ∧ g ≤ 1000000000000
def TlOk (many : Nat) : Tl → Prop
  | .fin => True
  | .times b => 0 < many ∧ 2 ≤ b ∧ b ≤ 1000
  | .rep n => 1 ≤ n ∧ n ≤ many
/-- the sum of the first k gaps -/
def pre (gs : List Int) (k : Nat) : Int := (gs.take k).sum
def offs (gs : List Int) : List Int := (List.range (gs.length + 1)).map (pre gs)
theorem offs_len (gs : List Int) : (offs gs).length = gs.length + 1 := by simp [offs]
theorem offs_get (gs : List Int) {k : Nat} (h : k ≤ gs.length) : (offs gs)[k]? = some (pre gs k) := by
  unfold offs
  rw [List.getElem?_map, List.getElem?_range (by omega)]
  rfl
theorem pre_zero (gs : List Int) : pre gs 0 = 0 := rfl
theorem pre_succ (gs : List Int) {k : Nat} {g : Int} (h : gs[k]? = some g) : pre gs (k + 1) = pre gs k + g := by
  unfold pre
  rw [List.take_add_one, h, List.sum_append]
  simp
theorem iteFb {b : Bool} {A B : Prop} (e : b = false) (h : B) : if b = true then A else B := by
  rw [e]
  exact iteF h
theorem iteTb {b : Bool} {A B : Prop} (e : b = true) (h : A) : if b = true then A else B := by
  rw [e]
  exact iteT h
theorem yes_t {Q : Bool → Hp → Prop} {σ : L2.St} {H : Hp} (h : Q true H) : tYes σ H Q := h
theorem at_map {xs : List Int} {j : Nat} {v : Int} (h : xs[j]? = some v) : atI (xs.map V.int) (j : Int) = some (.int v) := atI_nat (by rw [List.getElem?_map, h]; rfl)
theorem at_back {α : Type} {xs : List α} {j : Nat} {v : α} (h0 : 0 < j) (hj : j ≤ xs.length) (h : xs[xs.length - j]? = some v) : atI xs (-(j : Int)) = some v := by
  have e : ixN xs.length (-(j : Int)) = some (xs.length - j) := by
    unfold ixN
    rw [if_neg (by omega), if_pos (by omega)]
    congr 1
    omega
  unfold atI
  rw [e]
  exact h
theorem at_back1 {α : Type} {xs : List α} {v : α} (hj : 0 < xs.length) (h : xs[xs.length - 1]? = some v) : atI xs (-1) = some v := at_back (j := 1) (by omega) hj h

section
variable {P : Program} {w : World} {K : PySem.W.Frag} {mg : Str → Option Value} {base : Heap}
/-! ### is_integer -/
def spIsInt : Sp := fun vs H Q _ => ∃ i, vs = [.int i] ∧ Q (.bl true) H
theorem scIsInt : FnScope ["value"] ["value"] (defScope s_is_integer) := ⟨rfl, rfl, rfl, by decide +kernel, rfl, by decide +kernel, by decide +kernel⟩
theorem ok_isInt {f C : Addr} {fd : FuncData} (F : Fun K "is_integer" "is_integer" s_is_integer f fd) (T : Txt K mg C) : FnOk P w K mg base CX0 1 f fd ["value"] spIsInt := by
  refine F.ok scIsInt (fun vs H Q E h => ?_) (fun cdv A outer s H vs Q E hr h => ?_)
  · obtain ⟨i, rfl, _⟩ := h
    rfl
  · obtain ⟨i, rfl, k⟩ := h
    refine ⟨_, pss_one (ps_ret (pe_and (pe_callB call_isi (by rfl) T.isi (by decide +kernel) (pa_cons (pv 0) (pa_cons (pe_bltn (v := .ty "int") (by rfl) T.int (by decide +kernel) rfl) pa_nil))) (pe_one (pe_not (pe_callB call_isi (by rfl) T.isi (by decide +kernel) (pa_cons (pv 0) (pa_cons (pe_bltn (v := .ty "bool") (by rfl) T.bool (by decide +kernel) rfl) pa_nil))))))), ?_⟩
    refine ⟨_, rfl, _, _, _, _, _, rfl, .ty _, .base (.int i), kit_ty (r := true) (by decide +kernel), true, rfl, ?_⟩
    refine iteT ?_
    exact ⟨_, rfl, _, _, _, _, _, rfl, .ty _, .base (.int i), kit_ty (r := false) (by decide +kernel), false, rfl, k⟩

/-! ### _are_gaps -/
def spAreGaps : Sp := fun vs H Q _ => ∃ a gs, ∃ most : Nat, vs = [.ref a, .int (most : Int)] ∧ H a = some (.lst (gs.map V.int)) ∧ GapsOk gs ∧ gs.length ≤ most ∧ ∀ H', Same H H' → Q (.bl true) H'
theorem scAreGaps : FnScope ["value", "most", "gap"] ["value", "most"] (defScope s_are_gaps) := ⟨rfl, rfl, rfl, by decide +kernel, rfl, by decide +kernel, by decide +kernel⟩
theorem ok_areGaps {f C fi : Addr} {fd fdi : FuncData} (F : Fun K "are_gaps" "are_gaps" s_are_gaps f fd) (T : Txt K mg C) (FI : Fun K "is_integer" "is_integer" s_is_integer fi fdi) (bI : Binds K fdi ["value"] []) (mI : mg "is_integer" = some (.ref fi)) : FnOk P w K mg base CX0 2 f fd ["value", "most"] spAreGaps := by
  have GI : FnOk P w K mg base CX0 1 fi fdi ["value"] spIsInt := ok_isInt FI T
  obtain ⟨t2, m2⟩ := T.mLong
  refine F.ok scAreGaps (fun vs H Q E h => ?_) (fun cdv A outer s H vs Q E hr h => ?_)
  · obtain ⟨a, gs, most, rfl, _⟩ := h
    rfl
  · obtain ⟨a, gs, most, rfl, ha, ok, okm, k⟩ := h
    refine ⟨_, (pss_cons (ps_if (PW.pt (pw_or (pt_not (pt_val (pe_callB call_isi (by rfl) T.isi (by decide +kernel) (pa_cons (pv 0) (pa_cons (pe_bltn (v := .ty "list") (by rfl) T.list (by decide +kernel) rfl) pa_nil))))) (pw_or1 (pt_cmpR op_gt (pe_callB call_len_seq (by rfl) T.len (by decide +kernel) (pa_cons (pv 0) pa_nil)) (pv 1) (nomark _))))) (pss_one (ps_ret pe_bl)) pss_nil) (pss_one (ps_ret (pe_callB (cr_all rfl) (by rfl) T.all (by decide +kernel) (pa_cons (pe_lc (own := [("gap", 2)]) (g := gName 2) (tt := tYes) rfl scAreGaps.nd (pi_list (pv 0)) (blkOk_by (own := [("gap", 2)]) (N := ["value", "most", "gap"]) (sc := defScope s_are_gaps) (by decide +kernel))
          (fun _ _ _ _ _ => (pg_name (i := 2) scAreGaps.nd rfl (Or.inl rfl))) (fun _ _ _ _ _ => pts_nil)
          (fun _ _ _ _ _ => pe_and (pe_call GI hr rfl mI FI.kp bI .nil pass0 (pa_cons (pv 2) pa_nil)) (pe_one (pe_chain op_le op_le pe_int (pv 2) (pe_glob (v := .int 1000000000000) rfl m2 ⟨_, rfl⟩))))) pa_nil))))), ?_⟩
    refine ⟨_, rfl, _, _, _, _, _, rfl, .ty _, .base (.lst ha), kit_ty (r := true) (by decide +kernel), true, rfl, ?_⟩
    refine iteF ?_
    refine ⟨_, rfl, a, _, rfl, .inl (SqL.of ha), _, rfl, _, _, rfl, rfl, _, rfl, ?_⟩
    refine iteFb (decide_eq_false (by rw [List.length_map]; omega)) ?_
    refine ⟨_, rfl, a, rfl, ⟨_, SqL.of ha⟩, fun D hD => lc_list (a := a) (xs := gs.map V.int) (fun i H' => Same H H' ∧ H' D = some (.lst ((List.replicate i true).map V.bl))) ⟨?_, upd_same⟩ (fun i H' _ p => p.1.seq (SqL.of ha)) (fun i x H' hx p => ?_) (fun H' p => ?_)⟩
    · intro b o e
      rw [upd_ne (ne_of_none e hD)]
      exact e
    · obtain ⟨g, hg, rfl⟩ : ∃ g, gs[i]? = some g ∧ x = .int g := by
        rw [List.getElem?_map] at hx
        cases e : gs[i]? with
        | none => rw [e] at hx; cases hx
        | some g => rw [e] at hx; exact ⟨g, rfl, (Option.some.inj hx).symm⟩
      have hb := ok.2 g (List.mem_of_getElem? hg)
      have hi : i < gs.length := (List.getElem?_eq_some_iff.mp hg).1
      refine ⟨rfl, ?_⟩
      refine yes_t (iteT ?_)
      refine ⟨_, rfl, g, rfl, true, rfl, iteT ?_⟩
      refine ⟨_, rfl, _, _, rfl, rfl, _, rfl, iteTb (decide_eq_true hb.1) ?_⟩
      refine ⟨_, _, rfl, rfl, _, p.2, ?_, fun b o e => ?_, ?_⟩
      · rw [List.length_map, List.length_replicate]
        exact small1000 (by have := ok.1; omega)
      · rw [upd_ne (ne_of_none e hD)]
        exact p.1 b o e
      · rw [upd_same, List.replicate_succ', List.map_append]
        show some (HO.lst (List.map V.bl (List.replicate i true) ++ [V.bl (decide (g ≤ 1000000000000))])) = _
        rw [decide_eq_true hb.2]
        rfl
    · refine ⟨D, _, rfl, SqL.of p.2, ?_⟩
      have e : (List.replicate (gs.map V.int).length true).all id = true := by
        rw [List.all_eq_true]
        intro x hx
        rw [(List.mem_replicate.mp hx).2]
        rfl
      rw [e]
      exact k H' p.1

/-! ### _is_tail -/
def spIsTail : Sp := fun vs H Q _ => ∃ (t : Addr) (tl : Tl) (n : Nat), vs = [.ref t, .int (n : Int)] ∧ H t = some (.tup tl.vs) ∧ TlOk n tl ∧ ∀ H', Same H H' → Q (.bl true) H'
theorem scIsTail : FnScope ["value", "many"] ["value", "many"] (defScope s_is_tail) := ⟨rfl, rfl, rfl, by decide +kernel, rfl, by decide +kernel, by decide +kernel⟩
theorem same_new {H : Hp} {p : Addr} {o : HO} (h : H p = none) : Same H (upd H p o) := fun b u e => by
  rw [upd_ne (ne_of_none e h)]
  exact e
theorem ok_isTail {f C fi : Addr} {fd fdi : FuncData} (F : Fun K "_is_tail" "_is_tail" s_is_tail f fd) (T : Txt K mg C) (FI : Fun K "is_integer" "is_integer" s_is_integer fi fdi) (bI : Binds K fdi ["value"] []) (mI : mg "is_integer" = some (.ref fi)) : FnOk P w K mg base CX0 2 f fd ["value", "many"] spIsTail := by
  have GI : FnOk P w K mg base CX0 1 fi fdi ["value"] spIsInt := ok_isInt FI T
  obtain ⟨t1, m1⟩ := T.mFact
  refine F.ok scIsTail (fun vs H Q E h => ?_) (fun cdv A outer s H vs Q E hr h => ?_)
  · obtain ⟨t, tl, n, rfl, _⟩ := h
    rfl
  · obtain ⟨t, tl, n, rfl, ht, ok, k⟩ := h
    refine ⟨_, (pss_cons (ps_if (PW.pt (pw_or (pt_not (pt_val (pe_callB call_isi (by rfl) T.isi (by decide +kernel) (pa_cons (pv 0) (pa_cons (pe_bltn (v := .ty "tuple") (by rfl) T.tuple (by decide +kernel) rfl) pa_nil))))) (pw_or1 (pt_cmpR op_notIn_seq (pe_callB call_len_seq (by rfl) T.len (by decide +kernel) (pa_cons (pv 0) pa_nil)) (pe_tup (pa_cons pe_int (pa_cons pe_int pa_nil))) (by rfl))))) (pss_one (ps_ret pe_bl)) pss_nil) (pss_cons (ps_if (pt_not (pt_val (pe_callB call_isi (by rfl) T.isi (by decide +kernel) (pa_cons (pe_ix ix_tup (pv 0) pe_int (fun _ _ => rfl)) (pa_cons (pe_bltn (v := .ty "str") (by rfl) T.str (by decide +kernel) rfl) pa_nil))))) (pss_one (ps_ret pe_bl)) pss_nil) (pss_cons (ps_if (pt_cmpR op_eq (pe_callB call_len_seq (by rfl) T.len (by decide +kernel) (pa_cons (pv 0) pa_nil)) pe_int (nomark _)) (pss_one (ps_ret (pe_cmpR op_eq (pe_ix ix_tup (pv 0) pe_int (fun _ _ => rfl)) pe_str (nomark _)))) pss_nil) (pss_cons (ps_if (pt_not (pt_val (pe_call GI hr rfl mI FI.kp bI .nil pass0 (pa_cons (pe_ix ix_tup (pv 0) pe_int (fun _ _ => rfl)) pa_nil)))) (pss_one (ps_ret pe_bl)) pss_nil) (pss_cons (ps_if (pt_cmpR op_eq (pe_ix ix_tup (pv 0) pe_int (fun _ _ => rfl)) pe_str (nomark _)) (pss_one (ps_ret (pe_and (pe_cmpR op_gt (pv 1) pe_int (nomark _)) (pe_one (pe_chain op_le op_le pe_int (pe_ix ix_tup (pv 0) pe_int (fun _ _ => rfl)) (pe_glob (v := .int 1000) rfl m1 ⟨_, rfl⟩)))))) pss_nil) (pss_one (ps_ret (pe_and (pe_cmpR op_eq (pe_ix ix_tup (pv 0) pe_int (fun _ _ => rfl)) pe_str (nomark _)) (pe_one (pe_chain op_le op_le pe_int (pe_ix ix_tup (pv 0) pe_int (fun _ _ => rfl)) (pv 1))))))))))), ?_⟩
    refine ⟨_, rfl, _, _, _, _, _, rfl, .ty _, .base (.tup ht), kit_ty (r := true) (by decide +kernel), true, rfl, ?_⟩
    refine iteF ?_
    refine ⟨_, rfl, t, _, rfl, .inr (SqT.of ht), by show 2 ≤ sizeLine; decide, fun q hq => ?_⟩
    have hS : Same H (upd H q (.tup [.int 1, .int 2])) := same_new hq
    have ht2 := hS t _ ht
    refine ⟨q, _, rfl, .inr (SqT.of upd_same), rfl, rfl, _, rfl, ?_⟩
    cases tl with
    | fin =>
      refine iteFb (by decide +kernel) ?_
      refine ⟨_, rfl, t, _, _, _, rfl, rfl, SqT.of ht2, atI_nat (j := 0) rfl, _, _, _, _, _, rfl, .ty _, .base (.str _), kit_ty (r := true) (by decide +kernel), true, rfl, iteF ?_⟩
      refine ⟨_, rfl, t, _, rfl, .inr (SqT.of ht2), rfl, _, rfl, iteTb (by decide +kernel) ?_⟩
      refine ⟨_, rfl, t, _, _, _, rfl, rfl, SqT.of ht2, atI_nat (j := 0) rfl, rfl, ?_⟩
      exact k _ hS
    | times b =>
      refine iteFb (by show (!inV (V.int 2) [V.int 1, V.int 2]) = false; decide +kernel) ?_
      refine ⟨_, rfl, t, _, _, _, rfl, rfl, SqT.of ht2, atI_nat (j := 0) rfl, _, _, _, _, _, rfl, .ty _, .base (.str _), kit_ty (r := true) (by decide +kernel), true, rfl, iteF ?_⟩
      refine ⟨_, rfl, t, _, rfl, .inr (SqT.of ht2), rfl, _, rfl, iteFb (by show decide (V.int 2 = V.int 1) = false; decide +kernel) ?_⟩
      refine ⟨_, rfl, t, _, _, _, rfl, rfl, SqT.of ht2, atI_nat (j := 1) rfl, b, rfl, true, rfl, iteF ?_⟩
      refine ⟨_, rfl, t, _, _, _, rfl, rfl, SqT.of ht2, atI_nat (j := 0) rfl, rfl, _, rfl, iteTb (by decide +kernel) ?_⟩
      refine ⟨_, rfl, _, _, rfl, rfl, _, rfl, iteTb (decide_eq_true (by have := ok.1; omega)) ?_⟩
      refine ⟨_, rfl, t, _, _, _, rfl, rfl, SqT.of ht2, atI_nat (j := 1) rfl, _, _, rfl, rfl, _, rfl, iteTb (decide_eq_true ok.2.1) ?_⟩
      refine ⟨_, _, rfl, rfl, ?_⟩
      show Q (.bl (decide (b ≤ 1000))) _
      rw [decide_eq_true ok.2.2]
      exact k _ hS
    | rep m =>
      refine iteFb (by show (!inV (V.int 2) [V.int 1, V.int 2]) = false; decide +kernel) ?_
      refine ⟨_, rfl, t, _, _, _, rfl, rfl, SqT.of ht2, atI_nat (j := 0) rfl, _, _, _, _, _, rfl, .ty _, .base (.str _), kit_ty (r := true) (by decide +kernel), true, rfl, iteF ?_⟩
      refine ⟨_, rfl, t, _, rfl, .inr (SqT.of ht2), rfl, _, rfl, iteFb (by show decide (V.int 2 = V.int 1) = false; decide +kernel) ?_⟩
      refine ⟨_, rfl, t, _, _, _, rfl, rfl, SqT.of ht2, atI_nat (j := 1) rfl, _, rfl, true, rfl, iteF ?_⟩
      refine ⟨_, rfl, t, _, _, _, rfl, rfl, SqT.of ht2, atI_nat (j := 0) rfl, rfl, _, rfl, iteFb (by decide +kernel) ?_⟩
      refine ⟨_, rfl, t, _, _, _, rfl, rfl, SqT.of ht2, atI_nat (j := 0) rfl, rfl, true, by decide +kernel, iteT ?_⟩
      refine ⟨_, rfl, t, _, _, _, rfl, rfl, SqT.of ht2, atI_nat (j := 1) rfl, _, _, rfl, rfl, _, rfl, iteTb (decide_eq_true (by have := ok.1; omega)) ?_⟩
      refine ⟨_, rfl, _, _, rfl, rfl, ?_⟩
      show Q (.bl (decide (((m : Nat) : Int) ≤ (n : Int)))) _
      rw [decide_eq_true (show ((m : Nat) : Int) ≤ (n : Int) by have := ok.2; omega)]
      exact k _ hS
end
end RS
/-! ### comprehensions that only make values -/
namespace L2
open PySem PySem.Spec PyProof.Rows
/-- what the first i turns have made -/
def selTo (sel : Nat → Option V) (i : Nat) : List V := (List.range i).filterMap sel
theorem selTo_succ (sel : Nat → Option V) (i : Nat) : selTo sel (i + 1) = selTo sel i ++ (sel i).toList := by
  unfold selTo
  rw [List.range_succ, List.filterMap_append]
  cases h : sel i <;> simp [h]
theorem selTo_le (sel : Nat → Option V) (i : Nat) : (selTo sel i).length ≤ i := by
  unfold selTo
  have := List.length_filterMap_le sel (List.range i)
  rw [List.length_range] at this
  exact this
theorem selTo_get (ys : List V) : ∀ i, i ≤ ys.length → selTo (fun j : Nat => ys[j]?) i = ys.take i
  | 0, _ => rfl
  | i + 1, h => by
    rw [selTo_succ, selTo_get ys i (by omega), List.take_add_one]
theorem same_app {H1 H : Hp} {D : Addr} {o : HO} (hD : H1 D = none) (S : Same H1 H) : Same H1 (upd H D o) := fun b u e => by
  rw [upd_ne (ne_of_none e hD)]
  exact S b u e
theorem small_line {n : Nat} (h : n ≤ 100000) : n < sizeLine := Nat.lt_of_le_of_lt h (by decide +kernel)
/-- xs[i] in a block, K written -/
theorem pe_ixK {X : Cx} (K : PySem.W.Frag) (hK : X.K = K) {o i : Expr} {to ti : TE} {pos : Pos} (ho : PE X o to) (hi : PE X i ti) (hp : PlainIx i := by exact fun _ _ => rfl) : PE X (.Subscript o i pos) (tOp (rIxL K) to ti) := by
  subst hK
  exact pe_ix ix_list ho hi hp
theorem pe_ixTK {X : Cx} (K : PySem.W.Frag) (hK : X.K = K) {o i : Expr} {to ti : TE} {pos : Pos} (ho : PE X o to) (hi : PE X i ti) (hp : PlainIx i := by exact fun _ _ => rfl) : PE X (.Subscript o i pos) (tOp (rIxT K) to ti) := by
  subst hK
  exact pe_ix ix_tup ho hi hp
section
variable {X : Cx} {e tg : Expr} {te : TE} {p pos : Pos}
theorem pi_listK (K : PySem.W.Frag) (hK : X.K = K) (h : PE X e te) : PI X tg e (iList K te) := by
  subst hK
  exact pi_list h
theorem pi_tupK (K : PySem.W.Frag) (hK : X.K = K) (h : PE X e te) : PI X tg e (iTup K te) := by
  subst hK
  exact pi_tup h
theorem pe_allK (K : PySem.W.Frag) (hK : X.K = K) (hc : X.calm = true) (hg : Gl X "all") (hm : X.mg "all" = none) (ha : PE X e te) (hs : starEach [e] X.env = (false, eval e X.env) :: starEach [] X.env := by rfl) : PE X (.Call (.Name "all" p) [e] [] pos) (tCB (rAll K) (tCons te tNil)) := by
  subst hK
  exact pe_callB (cr_all hc) hg hm (by decide +kernel) (pa_cons ha pa_nil hs) (he := hs)
theorem pe_minK (K : PySem.W.Frag) (hK : X.K = K) (hc : X.calm = true) (hg : Gl X "min") (hm : X.mg "min" = none) (ha : PE X e te) (hs : starEach [e] X.env = (false, eval e X.env) :: starEach [] X.env := by rfl) : PE X (.Call (.Name "min" p) [e] [] pos) (tCB (rMin K) (tCons te tNil)) := by
  subst hK
  exact pe_callB (cr_min hc) hg hm (by decide +kernel) (pa_cons ha pa_nil hs) (he := hs)
end
section
variable {K : PySem.W.Frag} {a : Addr} {xs : List V} {g : TG} {tt : TT} {te : TE} {vs : List Nat} {σ : St} {H1 : Hp} {D : Addr} {Qd : Hp → Prop}
/-- over a list: turn i makes sel i, or nothing -/
theorem lc_sel (sel : Nat → Option V) (hx : SqL K H1 a xs) (hD : H1 D = none) (hn : xs.length ≤ 100000)
    (hs : ∀ (i : Nat) (x : V) (H : Hp) (Q : Option V → Hp → Prop), xs[i]? = some x → Same H1 H → (∀ H', Same H H' → Q (sel i) H') → g x (wipe σ vs) H fun σ2 H2 => wipe σ2 vs = wipe σ vs ∧ tt σ2 H2 fun b H3 =>
      if b = true then te σ2 H3 fun y H4 => Q (some y) H4 else Q none H3)
    (hd : ∀ H, Same H1 H → H D = some (.lst (selTo sel xs.length)) → Qd H) :
    ∃ W : Nat → Nat → Hp → Prop, (∃ m, W 0 m (upd H1 D (.lst []))) ∧ ∀ i m H, W i m H →
      ((Itl K a).stop i H ∧ Qd H) ∨ ((Itl K a).go i H ∧ ∃ Nx : Hp → Prop, (∀ H', Nx H' → ∃ m', m' < m ∧ W (i + 1) m' H') ∧ ∀ x H', (Itl K a).yld i H x H' → g x (wipe σ vs) H' fun σ2 H2 => wipe σ2 vs = wipe σ vs ∧ tt σ2 H2 fun b H3 =>
        if b = true then te σ2 H3 fun y H4 => ∃ acc, H4 D = some (.lst acc) ∧ acc.length < sizeLine ∧ Nx (upd H4 D (.lst (acc ++ [y]))) else Nx H3) := by
  refine lc_list (a := a) (xs := xs) (fun i H => i ≤ xs.length ∧ Same H1 H ∧ H D = some (.lst (selTo sel i))) ⟨Nat.zero_le _, same_app hD (fun _ _ e => e), upd_same⟩ (fun i H _ p => p.2.1.seq hx) (fun i x H hi p => ?_) (fun H p => hd H p.2.1 p.2.2)
  have hlt : i < xs.length := (List.getElem?_eq_some_iff.mp hi).1
  refine hs i x H (fun o H' => match o with | some y => ∃ acc, H' D = some (.lst acc) ∧ acc.length < sizeLine ∧ (i + 1 ≤ xs.length ∧ Same H1 (upd H' D (.lst (acc ++ [y]))) ∧ upd H' D (.lst (acc ++ [y])) D = some (.lst (selTo sel (i + 1)))) | none => i + 1 ≤ xs.length ∧ Same H1 H' ∧ H' D = some (.lst (selTo sel (i + 1)))) hi p.2.1 (fun H' S => ?_)
  have hl := selTo_le sel i
  rw [selTo_succ]
  cases sel i with
  | none => exact ⟨hlt, p.2.1.trans S, by simpa using S _ _ p.2.2⟩
  | some y => exact ⟨_, S _ _ p.2.2, small_line (by omega), hlt, same_app hD (p.2.1.trans S), upd_same⟩
/-- over a range -/
theorem lc_selR {lo : Int} {n : Nat} (sel : Nat → Option V) (hD : H1 D = none) (hn : n ≤ 100000)
    (hs : ∀ (i : Nat) (H : Hp) (Q : Option V → Hp → Prop), i < n → Same H1 H → (∀ H', Same H H' → Q (sel i) H') → g (.int (lo + i)) (wipe σ vs) H fun σ2 H2 => wipe σ2 vs = wipe σ vs ∧ tt σ2 H2 fun b H3 =>
      if b = true then te σ2 H3 fun y H4 => Q (some y) H4 else Q none H3)
    (hd : ∀ H, Same H1 H → H D = some (.lst (selTo sel n)) → Qd H) :
    ∃ W : Nat → Nat → Hp → Prop, (∃ m, W 0 m (upd H1 D (.lst []))) ∧ ∀ i m H, W i m H →
      ((Itr lo n).stop i H ∧ Qd H) ∨ ((Itr lo n).go i H ∧ ∃ Nx : Hp → Prop, (∀ H', Nx H' → ∃ m', m' < m ∧ W (i + 1) m' H') ∧ ∀ x H', (Itr lo n).yld i H x H' → g x (wipe σ vs) H' fun σ2 H2 => wipe σ2 vs = wipe σ vs ∧ tt σ2 H2 fun b H3 =>
        if b = true then te σ2 H3 fun y H4 => ∃ acc, H4 D = some (.lst acc) ∧ acc.length < sizeLine ∧ Nx (upd H4 D (.lst (acc ++ [y]))) else Nx H3) := by
  refine lc_range (fun i H => i ≤ n ∧ Same H1 H ∧ H D = some (.lst (selTo sel i))) ⟨Nat.zero_le _, same_app hD (fun _ _ e => e), upd_same⟩ (fun i H hlt p => ?_) (fun H p => hd H p.2.1 p.2.2)
  refine hs i H (fun o H' => match o with | some y => ∃ acc, H' D = some (.lst acc) ∧ acc.length < sizeLine ∧ (i + 1 ≤ n ∧ Same H1 (upd H' D (.lst (acc ++ [y]))) ∧ upd H' D (.lst (acc ++ [y])) D = some (.lst (selTo sel (i + 1)))) | none => i + 1 ≤ n ∧ Same H1 H' ∧ H' D = some (.lst (selTo sel (i + 1)))) hlt p.2.1 (fun H' S => ?_)
  have hl := selTo_le sel i
  rw [selTo_succ]
  cases sel i with
  | none => exact ⟨hlt, p.2.1.trans S, by simpa using S _ _ p.2.2⟩
  | some y => exact ⟨_, S _ _ p.2.2, small_line (by omega), hlt, same_app hD (p.2.1.trans S), upd_same⟩
theorem yes_ite {te : TE} {F : V → Hp → Prop} {N : Hp → Prop} {σ : St} {H : Hp} : (tYes σ H fun b H3 => if b = true then te σ H3 F else N H3) = te σ H F := by simp [tYes]
/-- over a list, without a test: the values ys -/
theorem lc_map (ys : List V) (hx : SqL K H1 a xs) (hD : H1 D = none) (hl : ys.length = xs.length) (hn : xs.length ≤ 100000)
    (hs : ∀ (i : Nat) (x y : V) (H : Hp) (Q : V → Hp → Prop), xs[i]? = some x → ys[i]? = some y → Same H1 H → (∀ H', Same H H' → Q y H') → g x (wipe σ vs) H fun σ2 H2 => wipe σ2 vs = wipe σ vs ∧ te σ2 H2 Q)
    (hd : ∀ H, Same H1 H → H D = some (.lst ys) → Qd H) :
    ∃ W : Nat → Nat → Hp → Prop, (∃ m, W 0 m (upd H1 D (.lst []))) ∧ ∀ i m H, W i m H →
      ((Itl K a).stop i H ∧ Qd H) ∨ ((Itl K a).go i H ∧ ∃ Nx : Hp → Prop, (∀ H', Nx H' → ∃ m', m' < m ∧ W (i + 1) m' H') ∧ ∀ x H', (Itl K a).yld i H x H' → g x (wipe σ vs) H' fun σ2 H2 => wipe σ2 vs = wipe σ vs ∧ tYes σ2 H2 fun b H3 =>
        if b = true then te σ2 H3 fun y H4 => ∃ acc, H4 D = some (.lst acc) ∧ acc.length < sizeLine ∧ Nx (upd H4 D (.lst (acc ++ [y]))) else Nx H3) := by
  refine lc_sel (fun j : Nat => ys[j]?) hx hD hn (fun i x H Q hi S q => ?_) (fun H S h => hd H S (by rw [← hl, selTo_get ys _ (Nat.le_refl _), List.take_length] at h; exact h))
  have hlt : i < xs.length := (List.getElem?_eq_some_iff.mp hi).1
  have hy : ys[i]? = some ys[i] := List.getElem?_eq_getElem (by omega)
  simp only [yes_ite]
  exact hs i x _ H (fun y H' => Q (some y) H') hi hy S fun H' S' => hy ▸ q H' S'
theorem lc_mapR {lo : Int} {n : Nat} (ys : List V) (hD : H1 D = none) (hl : ys.length = n) (hn : n ≤ 100000)
    (hs : ∀ (i : Nat) (y : V) (H : Hp) (Q : V → Hp → Prop), i < n → ys[i]? = some y → Same H1 H → (∀ H', Same H H' → Q y H') → g (.int (lo + i)) (wipe σ vs) H fun σ2 H2 => wipe σ2 vs = wipe σ vs ∧ te σ2 H2 Q)
    (hd : ∀ H, Same H1 H → H D = some (.lst ys) → Qd H) :
    ∃ W : Nat → Nat → Hp → Prop, (∃ m, W 0 m (upd H1 D (.lst []))) ∧ ∀ i m H, W i m H →
      ((Itr lo n).stop i H ∧ Qd H) ∨ ((Itr lo n).go i H ∧ ∃ Nx : Hp → Prop, (∀ H', Nx H' → ∃ m', m' < m ∧ W (i + 1) m' H') ∧ ∀ x H', (Itr lo n).yld i H x H' → g x (wipe σ vs) H' fun σ2 H2 => wipe σ2 vs = wipe σ vs ∧ tYes σ2 H2 fun b H3 =>
        if b = true then te σ2 H3 fun y H4 => ∃ acc, H4 D = some (.lst acc) ∧ acc.length < sizeLine ∧ Nx (upd H4 D (.lst (acc ++ [y]))) else Nx H3) := by
  refine lc_selR (fun j : Nat => ys[j]?) hD hn (fun i H Q hlt S q => ?_) (fun H S h => hd H S (by rw [← hl, selTo_get ys _ (Nat.le_refl _), List.take_length] at h; exact h))
  have hy : ys[i]? = some ys[i] := List.getElem?_eq_getElem (by omega)
  simp only [yes_ite]
  exact hs i _ H (fun y H' => Q (some y) H') hlt hy S fun H' S' => hy ▸ q H' S'
end
end L2
/-! ### set(xs) of a list of ints -/
namespace L2
open PySem PySem.Spec PyProof.Rows
def eset (w : World) : Obj := { cls := .type "set", dict := none, data := .set #[] 0 (.fresh 0 0 (!w.params.followText "set-order")) }
section
variable {P : Program} {w : World} {A : Around} {E : Value → Shared → Prop} {s : Shared}
set_option maxHeartbeats 4000000 in
theorem set_from {l : Addr} {its : Array Value} (zs : List Int) {Q : Value → Shared → Prop} (calm : A.handled = none) (isl : s.heap.IsList l its) (hz : IntsAre its.toList zs) (few : zs.length + 1 < scanBound)
    (fin : ∀ (g : Heap) (tt n : Nat), SetR w g s.heap.objs.size (fun j => decide (j ∈ zs)) n → n ≤ zs.length → (∀ b o, s.heap.get? b = some o → g.get? b = some o) → Q (.ref s.heap.objs.size) { s with heap := g, toks := tt }) :
    wpAny (model P w) A (call (.type "set") [.ref l]) Q E s := by
  have many : its.size = zs.length := by simpa using IntsAre.length hz
  have k1 := F.called_set
  obtain ⟨cc, tll, mroS⟩ := k1.mro
  have m1 := k1.made; have m2 := k1.sub; have m3 := k1.notType; have m4 := k1.canCreate; have m5 := F.typeCall_set_1 (.ref l)
  refine wpAny_call (codeAny_of_tree (show wpAny _ _ (callAny (.type "set") _) _ _ _ from wpAny_pure ⟨Code.quiet_builtin _ (by decide +kernel), codeAny_builtin F.entry_type_call ?_⟩))
  rw [Around.under_plain (weight_type_call_type "set" [.ref l] []) rfl]
  repeat (any_goals (first | assumption | wp_step))
  refine codeAny_mono (code_set_led1 (.ref l) (E := E) (Q₁ := fun ob t => ob = .ref s.heap.objs.size ∧ t = { s with heap := s.heap.push (eset w) }) ⟨rfl, rfl⟩) fun out t1 told => ?_
  match out, told with
  | .error _, told => exact told
  | .ok .next, told => exact told.elim
  | .ok .brk, told => exact told.elim
  | .ok .cont, told => exact told.elim
  | .ok (.ret ob), ⟨eo, et⟩ =>
    subst eo et
    have atS : (s.heap.push (eset w)).get? s.heap.objs.size = some (eset w) := Heap.get?_push_size _ rfl
    have tyS : Shared.TypeIs { s with heap := s.heap.push (eset w) } (.ref s.heap.objs.size) "set" := ⟨_, atS, rfl⟩
    have n1 := k1.init.lookup; have n2 := k1.init.bind (.ref s.heap.objs.size)
    repeat (any_goals (first | assumption | wp_step))
    refine codeAny_mono (codeAny_call_builtin (R := wants (fun r t => r = .none ∧ ∃ g tt n, t = { s with heap := g, toks := tt } ∧ SetR w g s.heap.objs.size (fun j => decide (j ∈ zs)) n ∧ n ≤ zs.length ∧ ∀ b o, s.heap.get? b = some o → g.get? b = some o) E) k1.init.plain F.entry_set_init (check_set_init_1 tyS ?_)) fun out t2 told => ?_
    · obtain ⟨⟨oc, od, odt, osl⟩, atL, cl, nn, dt⟩ := isl
      simp only at cl dt
      subst cl dt
      have atL1 : (s.heap.push (eset w)).get? l = some { cls := .type "list", dict := od, data := .seq its nn, slots := osl } := Heap.get?_push_of_some _ atL
      have q1 := F.sub_list_set; have q2 := F.sub_list_frozenset
      have q3 : (Value.type "list" == Value.type "dict") = false := by decide
      have isl1 : (s.heap.push (eset w)).IsList l its := ⟨_, atL1, rfl, nn, rfl⟩
      unfold Builtin.«set.__init__» noKeywords Builtin.Frozenset.updateFrom
      generalize eP : pyIter = PP
      wp_walk
      subst eP
      refine wpAny_pyIter_list isl1 (wpAny_bind (wpAny_runValue ?_))
      have lo : l < s.heap.objs.size := Heap.lt_size atL
      have sz : (s.heap.push (eset w)).objs.size = s.heap.objs.size + 1 := Heap.size_push ..
      have calm3 : A.in1.in1.in1.handled = none := by simp [calm]
      have d1 : l ≠ (s.heap.push (eset w)).objs.size := by rw [sz]; exact Nat.ne_of_lt (Nat.lt_succ_of_lt lo)
      have d2 : s.heap.objs.size ∉ [(s.heap.push (eset w)).objs.size, l] := by
        rw [sz]
        simp only [List.mem_cons, List.not_mem_nil, or_false, not_or]
        exact ⟨Nat.ne_of_lt (Nat.lt_succ_self _), (Nat.ne_of_lt lo).symm⟩
      have vals : ∀ (i : Nat) (v : Value), its[i]? = some v → ∃ k t, zs[i]? = some k ∧ v = .int k t := fun i v hv => by
        have lt : i < zs.length := many ▸ (Array.getElem?_eq_some_iff.mp hv).1
        obtain ⟨t, ev⟩ := IntsAre.int_at hz i v (by simpa using hv)
        exact ⟨zs[i], t, List.getElem?_eq_getElem lt, by rw [ev, List.getD_eq_getElem?_getD, List.getElem?_eq_getElem lt] <;> rfl⟩
      refine set_update_ints ((Walks.list calm3 _ l d1 its).toS) s.heap.objs.size d2 zs many few vals (its.size - 0) 0 _ (by omega) (Nat.zero_le _) ⟨⟨_, Heap.get?_push_size _ rfl, rfl, rfl⟩, isl1.push _⟩ ⟨0, Nat.le_refl 0, setR_new_at (Heap.get?_push_of_some _ atS)⟩ fun t n mv hn R => ?_
      obtain ⟨g, gn, dr, tt, os⟩ := t
      obtain rfl : gn = s.gens := mv.gens
      obtain rfl : dr = s.drawn := mv.drawn
      obtain rfl : os = s.os := mv.os
      show wpAny _ _ _ _ _ _
      refine wpAny_pure (show wpAny _ _ (ret Value.none) _ _ _ from wpAny_pure ⟨rfl, g, tt, n, rfl, R, many ▸ hn, fun b o e => ?_⟩)
      have hb := Heap.lt_size e
      refine mv.heap b o ?_ (Heap.get?_push_of_some _ (Heap.get?_push_of_some _ e))
      simp only [List.mem_cons, List.not_mem_nil, or_false, not_or]
      rw [sz]
      exact ⟨Nat.ne_of_lt hb, Nat.ne_of_lt (Nat.lt_succ_of_lt hb)⟩
    · match out, told with
      | .error _, told => exact told
      | .ok .next, told => exact told.elim
      | .ok .brk, told => exact told.elim
      | .ok .cont, told => exact told.elim
      | .ok (.ret _), ⟨e1, g, tt, n, e2, R, hn, kp⟩ =>
        subst e1 e2
        repeat (any_goals (first | assumption | wp_step))
        exact fin _ _ _ R hn kp
end
section
variable {X : Cx}
def rSetOfL (K : PySem.W.Frag) (w : World) : List V → Hp → VK → Prop := fun xs H Q => ∃ (l : Addr) (ns : List Int), xs = [.ref l] ∧ SqL K H l (ns.map V.int) ∧ ns.length ≤ 4000 ∧ ∀ p n, H p = none → n ≤ ns.length → Q (.ref p) (upd H p (SetO w p (fun j => decide (j ∈ ns)) n))
theorem cr_setL (hc : X.calm = true) : CallR X (.type "set") (rSetOfL X.K X.w) := by
  intro pins s σ H xs us Q I r h
  obtain ⟨l, ns, rfl, hs, hn, q⟩ := h
  obtain ⟨its, rv, hl, _⟩ := I.list hs
  rw [Vals.ref1 r]
  refine set_from ns (I.ok.hd hc) hl.isList (by simpa using rv.ints) (by unfold scanBound; omega) fun g tt n R hle kp => ?_
  exact ⟨.ref _, upd H s.heap.objs.size (SetO X.w s.heap.objs.size (fun j => decide (j ∈ ns)) n), I.laid (t' := tt) kp (Nat.le_refl _) (setO_new R), rfl, q _ _ (I.hok.fresh (Nat.le_refl _)) hle⟩
end
end L2
namespace RS
open PySem L2
theorem kGT : ¬ (("_gaps" : Str) = "_tail") := by decide +kernel
theorem kGO : ¬ (("_gaps" : Str) = "_offsets") := by decide +kernel
theorem kTO : ¬ (("_tail" : Str) = "_offsets") := by decide +kernel
def flds (g t o : Addr) : List (Str × V) := putF "_offsets" (.ref o) (putF "_tail" (.ref t) (putF "_gaps" (.ref g) []))
theorem flds_g (g t o : Addr) : (flds g t o).lookup ("_gaps" : Str) = some (.ref g) := by
  unfold flds
  rw [lookup_putF, if_neg kGO, lookup_putF, if_neg kGT, lookup_putF, if_pos rfl]
theorem flds_t (g t o : Addr) : (flds g t o).lookup ("_tail" : Str) = some (.ref t) := by
  unfold flds
  rw [lookup_putF, if_neg kTO, lookup_putF, if_pos rfl]
theorem flds_o (g t o : Addr) : (flds g t o).lookup ("_offsets" : Str) = some (.ref o) := by
  unfold flds
  rw [lookup_putF, if_pos rfl]
theorem flds_no (g t o : Addr) {m : Str} (h1 : ¬ m = "_offsets") (h2 : ¬ m = "_tail") (h3 : ¬ m = "_gaps") : (flds g t o).lookup m = none := by
  unfold flds
  rw [lookup_putF, if_neg h1, lookup_putF, if_neg h2, lookup_putF, if_neg h3]
  rfl
/-- a rule stands at p -/
structure RuleAt (C : Addr) (H : Hp) (p g t o : Addr) (gs : List Int) (tl : Tl) : Prop where
  ob : ∃ dx, H p = some (.ins C dx (flds g t o))
  hg : H g = some (.lst (gs.map V.int))
  ht : H t = some (.tup tl.vs)
  ho : H o = some (.lst ((offs gs).map V.int))
  okG : GapsOk gs
  okT : TlOk gs.length tl
theorem RuleAt.mono {C : Addr} {H H' : Hp} {p g t o : Addr} {gs : List Int} {tl : Tl} (R : RuleAt C H p g t o gs tl) (h : Same H H') : RuleAt C H' p g t o gs tl :=
  ⟨let ⟨dx, e⟩ := R.ob; ⟨dx, h _ _ e⟩, h _ _ R.hg, h _ _ R.ht, h _ _ R.ho, R.okG, R.okT⟩
theorem map_of {xs : List Int} {i : Nat} {x : V} (hx : (xs.map V.int)[i]? = some x) : ∃ g, xs[i]? = some g ∧ x = .int g := by
  rw [List.getElem?_map] at hx
  cases e : xs[i]? with
  | none => rw [e] at hx; cases hx
  | some g => rw [e] at hx; exact ⟨g, rfl, (Option.some.inj hx).symm⟩

section
variable {P : Program} {w : World} {K : PySem.W.Frag} {mg : Str → Option Value} {base : Heap}
/-! ### _sums -/
def spSums : Sp := fun vs H Q _ => ∃ a gs, vs = [.ref a] ∧ H a = some (.lst (gs.map V.int)) ∧ gs.length ≤ 100 ∧ ∀ p H', H p = none → Same H H' → H' p = some (.lst ((offs gs).map V.int)) → Q (.ref p) H'
theorem scSums : FnScope ["gaps", "offsets", "gap"] ["gaps"] (defScope s_sums) := ⟨rfl, rfl, rfl, by decide +kernel, rfl, by decide +kernel, by decide +kernel⟩
theorem ok_sums {f : Addr} {fd : FuncData} (F : Fun K "sums" "sums" s_sums f fd) : FnOk P w K mg base CX0 1 f fd ["gaps"] spSums := by
  refine F.ok scSums (fun vs H Q E h => ?_) (fun cdv A outer s H vs Q E hr h => ?_)
  · obtain ⟨a, gs, rfl, _⟩ := h
    rfl
  · obtain ⟨a, gs, rfl, ha, hn, k⟩ := h
    refine ⟨_, (pss_cons (ps_set (i := 1) scSums.nd rfl (Or.inl rfl) (pe_lst (pa_cons pe_int pa_nil))) (pss_cons (ps_for PassesOwn.never rfl (pi_list (pv 0)) (pg_name (i := 2) scSums.nd rfl (Or.inl rfl)) (pss_one (ps_expr (pe_bm PySem.F.plainAttrs_list PySem.F.slot_list_append PySem.F.type_list_append mt_append (pv 1) (pa_cons (pe_op op_add (pe_ix ix_list (pv 1) (pe_un un_neg pe_int) (fun _ _ => rfl)) (pv 2)) pa_nil))))) (pss_one (ps_ret (pv 1))))), ?_⟩
    refine ⟨by show 1 ≤ sizeLine; decide, fun l hl => ?_⟩
    have S0 : Same H (upd H l (.lst [.int 0])) := same_new hl
    refine ⟨_, rfl, a, rfl, ⟨_, SqL.of (S0 _ _ ha)⟩, for_list (a := a) (xs := gs.map V.int) (fun i σ H' => ∃ v, σ = [some (.ref a), some (.ref l), v] ∧ Same H H' ∧ H' l = some (.lst (((List.range (i + 1)).map (pre gs)).map V.int))) ⟨none, rfl, S0, upd_same⟩ (fun i σ H' _ ⟨v, _, S, _⟩ => SqL.of (S _ _ ha)) ?_ ?_⟩
    · rintro i x σ H' hx ⟨v, rfl, S, hl'⟩
      obtain ⟨g, hg, rfl⟩ := map_of hx
      have hi : i < gs.length := (List.getElem?_eq_some_iff.mp hg).1
      have hz : (((List.range (i + 1)).map (pre gs)).map V.int).length = i + 1 := by simp
      refine ⟨_, rfl, .inl ⟨rfl, _, SqL.of hl'⟩, _, rfl, _, rfl, l, _, _, _, rfl, rfl, SqL.of hl', at_back1 (v := .int (pre gs i)) (by rw [hz]; omega) ?_, _, rfl, _, _, rfl, rfl, l, _, _, rfl, rfl, hl', by rw [hz]; exact small1000 (by omega), ?_⟩
      · rw [hz, List.getElem?_map, List.getElem?_map, List.getElem?_range (by omega)]
        rfl
      · refine ⟨_, rfl, fun b o e => ?_, ?_⟩
        · rw [upd_ne (ne_of_none e hl)]
          exact S b o e
        · rw [upd_same, List.range_succ (n := i + 1), List.map_append, List.map_append]
          show _ = some (HO.lst (_ ++ [V.int (pre gs (i + 1))]))
          rw [pre_succ gs hg]
    · rintro σ H' ⟨v, rfl, S, hl'⟩
      rw [List.length_map] at hl'
      exact ⟨_, rfl, k l H' hl S hl'⟩

/-! ### _power -/
def spPower : Sp := fun vs H Q _ => ∃ (b : Int) (e : Nat), vs = [.int b, .int (e : Int)] ∧ 0 ≤ b ∧ b < 1024 ∧ e ≤ 1024 ∧ Q (.int (b ^ e)) H
theorem scPower : FnScope ["base", "exponent", "result"] ["base", "exponent"] (defScope s_power) := ⟨rfl, rfl, rfl, by decide +kernel, rfl, by decide +kernel, by decide +kernel⟩
theorem pow_small {b : Int} {n : Nat} (h0 : 0 ≤ b) (h1 : b < 1024) (hn : n ≤ 2048) : (b ^ n).natAbs < 2 ^ 20481 := by
  rw [Int.natAbs_pow]
  have h2 : b.natAbs ≤ 2 ^ 10 := by omega
  have h3 : b.natAbs ^ n ≤ (2 ^ 10) ^ n := Nat.pow_le_pow_left h2 n
  rw [← Nat.pow_mul] at h3
  have h4 : 2 ^ (10 * n) < 2 ^ 20481 := Nat.pow_lt_pow_right (by decide) (by omega)
  omega
theorem half_mod (e k : Nat) : e % 2 ^ (k + 1) = e % 2 ^ k + 2 ^ k * (e / 2 ^ k % 2) := by
  rw [Nat.pow_succ, Nat.mod_mul]
theorem half_div (e k : Nat) : e / 2 ^ k / 2 = e / 2 ^ (k + 1) := by
  rw [Nat.pow_succ, Nat.div_div_eq_div_mul]
theorem ok_power {f : Addr} {fd : FuncData} (F : Fun K "_power" "_power" s_power f fd) : FnOk P w K mg base CX0 1 f fd ["base", "exponent"] spPower := by
  refine F.ok scPower (fun vs H Q E h => ?_) (fun cdv A outer s H vs Q E hr h => ?_)
  · obtain ⟨b, e, rfl, _⟩ := h
    rfl
  · obtain ⟨b, e, rfl, b0, b1, he, k⟩ := h
    refine ⟨_, (pss_cons (ps_set (i := 2) scPower.nd rfl (Or.inl rfl) pe_int) (pss_cons (ps_while PassesOwn.never (pt_cmpR op_gt (pv 1) pe_int (nomark _)) (pss_cons (ps_if (pt_cmpR op_eq (pe_op op_odd (pv 1) pe_int) pe_int (nomark _)) (pss_one (ps_set (i := 2) scPower.nd rfl (Or.inl rfl) (pe_op op_mulW (pv 2) (pv 0)))) pss_nil) (pss_cons (ps_set (i := 0) scPower.nd rfl (Or.inl rfl) (pe_op op_mulW (pv 0) (pv 0))) (pss_one (ps_set (i := 1) scPower.nd rfl (Or.inl rfl) (pe_op op_halfN (pv 1) pe_int)))))) (pss_one (ps_ret (pv 2))))), ?_⟩
    refine ⟨fun m σ H' => H' = H ∧ ∃ j, m = e / 2 ^ j ∧ σ = [some (.int (b ^ (2 ^ j))), some (.int ((e / 2 ^ j : Nat) : Int)), some (.int (b ^ (e % 2 ^ j)))], ⟨e, rfl, 0, by simp, by simp [L2.start, Nat.mod_one]; rw [Int.pow_succ, Int.pow_zero, Int.one_mul]⟩, ?_⟩
    rintro m σ H' ⟨rfl, j, rfl, rfl⟩
    refine ⟨_, rfl, _, _, rfl, rfl, _, rfl, ?_⟩
    by_cases hz : 0 < e / 2 ^ j
    · refine iteTb (decide_eq_true (by omega)) ?_
      have hj : 2 ^ j ≤ e := by
        by_cases hlt : e < 2 ^ j
        · rw [Nat.div_eq_of_lt hlt] at hz; omega
        · omega
      have hj1 : (b ^ (2 ^ j)).natAbs < 2 ^ 20481 := pow_small b0 b1 (by omega)
      have hm : e % 2 ^ j < 2 ^ j := Nat.mod_lt _ (Nat.pow_pos (by decide))
      have hr1 : (b ^ (e % 2 ^ j)).natAbs < 2 ^ 20481 := pow_small b0 b1 (by omega)
      refine ⟨fun σ' H2 => H2 = H' ∧ σ' = [some (.int (b ^ (2 ^ (j + 1)))), some (.int ((e / 2 ^ (j + 1) : Nat) : Int)), some (.int (b ^ (e % 2 ^ (j + 1))))], ?_, ?_⟩
      · rintro σ' H2 ⟨rfl, rfl⟩
        refine ⟨e / 2 ^ (j + 1), ?_, rfl, j + 1, rfl, rfl⟩
        rw [← half_div]
        omega
      · have e2 : b ^ 2 ^ j * b ^ 2 ^ j = b ^ 2 ^ (j + 1) := by
          rw [← Int.pow_add, Nat.pow_succ, Nat.mul_two]
        refine ⟨_, rfl, e / 2 ^ j, rfl, rfl, rfl, _, rfl, ?_⟩
        rcases Nat.mod_two_eq_zero_or_one (e / 2 ^ j) with h2 | h2
        · refine iteFb (decide_eq_false (by rw [h2]; intro z; cases z)) ?_
          refine ⟨_, rfl, _, rfl, _, _, rfl, rfl, wide_mul hj1 hj1 (by decide) (by decide) (by decide), ?_⟩
          refine ⟨_, rfl, e / 2 ^ j, rfl, rfl, rfl, ?_⟩
          rw [half_mod, h2, Nat.mul_zero, Nat.add_zero, ← half_div, ← e2]
          rfl
        · refine iteTb (decide_eq_true (by rw [h2]; rfl)) ?_
          refine ⟨_, rfl, _, rfl, _, _, rfl, rfl, wide_mul hr1 hj1 (by decide) (by decide) (by decide), ?_⟩
          refine ⟨_, rfl, _, rfl, _, _, rfl, rfl, wide_mul hj1 hj1 (by decide) (by decide) (by decide), ?_⟩
          refine ⟨_, rfl, e / 2 ^ j, rfl, rfl, rfl, ?_⟩
          rw [half_mod, h2, Nat.mul_one, Int.pow_add, ← half_div, ← e2]
          rfl
    · refine iteFb (decide_eq_false (by omega)) ?_
      have hlt : e % 2 ^ j = e := by
        refine Nat.mod_eq_of_lt ?_
        have := Nat.lt_div_mul_add (a := e) (b := 2 ^ j) (Nat.pow_pos (by decide))
        have h0 : e / 2 ^ j = 0 := Nat.eq_zero_of_not_pos hz
        rw [h0] at this
        omega
      refine ⟨_, rfl, ?_⟩
      rw [hlt]
      exact k
end
end RS
namespace RS
open PySem L2
def Tl.word : Tl → Str
  | .fin => "end"
  | .times _ => "times"
  | .rep _ => "repeat"
theorem Tl.at0 (tl : Tl) : atI tl.vs 0 = some (.str tl.word) := by cases tl <;> exact atI_nat (j := 0) rfl
theorem wEE : decide (V.str "end" = V.str "end") = true := by decide +kernel
theorem wET : decide (V.str "end" = V.str "times") = false := by decide +kernel
theorem wER : decide (V.str "end" = V.str "repeat") = false := by decide +kernel
theorem wTE : decide (V.str "times" = V.str "end") = false := by decide +kernel
theorem wTT : decide (V.str "times" = V.str "times") = true := by decide +kernel
theorem wTR : decide (V.str "times" = V.str "repeat") = false := by decide +kernel
theorem wRE : decide (V.str "repeat" = V.str "end") = false := by decide +kernel
theorem wRT : decide (V.str "repeat" = V.str "times") = false := by decide +kernel
theorem wRR : decide (V.str "repeat" = V.str "repeat") = true := by decide +kernel
def lastG (gs : List Int) : Int := gs.getD (gs.length - 1) 0
def per (gs : List Int) (m : Nat) : Int := pre gs gs.length - pre gs (gs.length - m)
def off (gs : List Int) (tl : Tl) (n : Nat) : Int :=
  if n ≤ gs.length then pre gs n else match tl with
  | .fin => 0
  | .times b => pre gs gs.length + lastG gs * b * (b ^ (n - gs.length) - 1) / (b - 1)
  | .rep m => pre gs (gs.length - m + (n - gs.length) % m) + (((n - gs.length) / m : Nat) + 1) * per gs m
def gapf (gs : List Int) (tl : Tl) (n : Nat) : Int :=
  if n < gs.length then gs.getD n 0 else match tl with
  | .fin => 0
  | .times b => lastG gs * b ^ (n - gs.length + 1)
  | .rep m => gs.getD (gs.length - m + (n - gs.length) % m) 0
/-- an attempt that is answered -/
def AttOk (gs : List Int) (tl : Tl) (n : Nat) : Prop := match tl with
  | .fin => n ≤ gs.length
  | .times _ => n ≤ 1000
  | .rep _ => True
theorem AttOk.low {gs : List Int} {tl : Tl} (okG : GapsOk gs) {n : Nat} (h : n ≤ gs.length) : AttOk gs tl n := by
  cases tl with
  | fin => exact h
  | times b => have := okG.1; show n ≤ 1000; omega
  | rep m => exact True.intro
theorem getD_get {gs : List Int} {k : Nat} (h : k < gs.length) : gs[k]? = some (gs.getD k 0) := by
  rw [List.getD_eq_getElem?_getD, List.getElem?_eq_getElem h]
  rfl
theorem gap_bd {gs : List Int} (ok : GapsOk gs) {k : Nat} (h : k < gs.length) : 1 ≤ gs.getD k 0 ∧ gs.getD k 0 ≤ 1000000000000 := ok.2 _ (List.mem_of_getElem? (getD_get h))
theorem pre_le {gs : List Int} (ok : GapsOk gs) : ∀ k, k ≤ gs.length → (k : Int) ≤ pre gs k ∧ pre gs k ≤ 1000000000000 * k
  | 0, _ => by rw [pre_zero]; omega
  | k + 1, h => by
    have ih := pre_le ok k (by omega)
    have b := gap_bd ok (k := k) (by omega)
    rw [pre_succ gs (getD_get (by omega))]
    omega
theorem pre_mono {gs : List Int} (ok : GapsOk gs) (i : Nat) : ∀ k, i + k ≤ gs.length → pre gs i + k ≤ pre gs (i + k)
  | 0, _ => by simp
  | k + 1, h => by
    have ih := pre_mono ok i k (by omega)
    have b := gap_bd ok (k := i + k) (by omega)
    rw [show i + (k + 1) = (i + k) + 1 by omega, pre_succ gs (getD_get (by omega))]
    omega
theorem per_bd {gs : List Int} (ok : GapsOk gs) {m : Nat} (h1 : 1 ≤ m) (h2 : m ≤ gs.length) : (m : Int) ≤ per gs m ∧ per gs m ≤ 20000000000000 := by
  have a := pre_mono ok (gs.length - m) m (by omega)
  have b := pre_le ok (gs.length - m) (by omega)
  have c := pre_le ok gs.length (Nat.le_refl _)
  have d := ok.1
  rw [show gs.length - m + m = gs.length by omega] at a
  unfold per
  omega

section
variable {P : Program} {w : World} {K : PySem.W.Frag} {mg : Str → Option Value} {base : Heap}
/-! ### a rule's attributes, read -/
section
variable {C p g t o : Addr} {gs : List Int} {tl : Tl} {H : Hp} {σ : L2.St} {i : Nat}
theorem rdG {Q : VK} (T : Txt K mg C) (R : RuleAt C H p g t o gs tl) (hi : σ[i]? = some (some (.ref p))) (q : Q (.ref g) H) : tFld K (tVar i) "_gaps" σ H Q := by
  obtain ⟨dx, h⟩ := R.ob
  exact ⟨_, hi, p, C, dx, _, _, rfl, h, T.cl, T.nG, flds_g _ _ _, q⟩
theorem rdT {Q : VK} (T : Txt K mg C) (R : RuleAt C H p g t o gs tl) (hi : σ[i]? = some (some (.ref p))) (q : Q (.ref t) H) : tFld K (tVar i) "_tail" σ H Q := by
  obtain ⟨dx, h⟩ := R.ob
  exact ⟨_, hi, p, C, dx, _, _, rfl, h, T.cl, T.nT, flds_t _ _ _, q⟩
theorem rdO {Q : VK} (T : Txt K mg C) (R : RuleAt C H p g t o gs tl) (hi : σ[i]? = some (some (.ref p))) (q : Q (.ref o) H) : tFld K (tVar i) "_offsets" σ H Q := by
  obtain ⟨dx, h⟩ := R.ob
  exact ⟨_, hi, p, C, dx, _, _, rfl, h, T.cl, T.nO, flds_o _ _ _, q⟩
theorem rdOx {te : TE} {Q : VK} (T : Txt K mg C) (R : RuleAt C H p g t o gs tl) (hi : σ[i]? = some (some (.ref p))) (q : te σ H fun y H2 => rIxL K (.ref o) y H2 Q) : tOp (rIxL K) (tFld K (tVar i) "_offsets") te σ H Q := by
  dsimp only [tOp]
  exact rdO T R hi q
theorem rdGx {te : TE} {Q : VK} (T : Txt K mg C) (R : RuleAt C H p g t o gs tl) (hi : σ[i]? = some (some (.ref p))) (q : te σ H fun y H2 => rIxL K (.ref g) y H2 Q) : tOp (rIxL K) (tFld K (tVar i) "_gaps") te σ H Q := by
  dsimp only [tOp]
  exact rdG T R hi q
theorem rdIs {s : Str} {Q : Bool → Hp → Prop} (T : Txt K mg C) (R : RuleAt C H p g t o gs tl) (hi : σ[i]? = some (some (.ref p))) (q : Q (decide (V.str tl.word = V.str s)) H) :
    tTest (tOp rEq (tOp (rIxT K) (tFld K (tVar i) "_tail") (tC (.int 0))) (tC (.str s))) σ H Q := by
  dsimp only [tTest, tOp]
  exact rdT T R hi ⟨t, _, _, _, rfl, rfl, SqT.of R.ht, tl.at0, rfl, _, rfl, q⟩
theorem rdNe {s : Str} {Q : Bool → Hp → Prop} (T : Txt K mg C) (R : RuleAt C H p g t o gs tl) (hi : σ[i]? = some (some (.ref p))) (q : Q (!decide (V.str tl.word = V.str s)) H) :
    tTest (tOp rNe (tOp (rIxT K) (tFld K (tVar i) "_tail") (tC (.int 0))) (tC (.str s))) σ H Q := by
  dsimp only [tTest, tOp]
  exact rdT T R hi ⟨t, _, _, _, rfl, rfl, SqT.of R.ht, tl.at0, rfl, _, rfl, q⟩
theorem rdB {b : Int} {Q : VK} (T : Txt K mg C) (R : RuleAt C H p g t o gs (.times b)) (hi : σ[i]? = some (some (.ref p))) (q : Q (.int b) H) : tOp (rIxT K) (tFld K (tVar i) "_tail") (tC (.int 1)) σ H Q :=
  rdT T R hi ⟨t, _, _, _, rfl, rfl, SqT.of R.ht, atI_nat (j := 1) rfl, q⟩
theorem rdN {m : Nat} {Q : VK} (T : Txt K mg C) (R : RuleAt C H p g t o gs (.rep m)) (hi : σ[i]? = some (some (.ref p))) (q : Q (.int (m : Int)) H) : tOp (rIxT K) (tFld K (tVar i) "_tail") (tC (.int 1)) σ H Q :=
  rdT T R hi ⟨t, _, _, _, rfl, rfl, SqT.of R.ht, atI_nat (j := 1) rfl, q⟩
theorem rdLast {Q : VK} (T : Txt K mg C) (R : RuleAt C H p g t o gs tl) (hi : σ[i]? = some (some (.ref p))) (h0 : 0 < gs.length) (q : Q (.int (lastG gs)) H) :
    tOp (rIxL K) (tFld K (tVar i) "_gaps") (tUn (rU fun i => .int (-i)) (tC (.int 1))) σ H Q :=
  rdG T R hi ⟨_, rfl, g, _, _, _, rfl, rfl, SqL.of R.hg, at_back1 (by rw [List.length_map]; exact h0) (by rw [List.length_map, List.getElem?_map, getD_get (by omega)]; rfl), q⟩
theorem rdLastO {Q : VK} (T : Txt K mg C) (R : RuleAt C H p g t o gs tl) (hi : σ[i]? = some (some (.ref p))) (q : Q (.int (pre gs gs.length)) H) :
    tOp (rIxL K) (tFld K (tVar i) "_offsets") (tUn (rU fun i => .int (-i)) (tC (.int 1))) σ H Q :=
  rdO T R hi ⟨_, rfl, o, _, _, _, rfl, rfl, SqL.of R.ho, at_back1 (by rw [List.length_map, offs_len]; omega) (by rw [List.length_map, offs_len, List.getElem?_map, offs_get gs (by omega)]; rfl), q⟩
end
/-! ### Rule.__init__ -/
def spInit (C : Addr) : Sp := fun vs H Q _ => ∃ (p dx a t : Addr) (gs : List Int) (tl : Tl), vs = [.ref p, .ref a, .ref t] ∧ H p = some (.ins C dx []) ∧ H a = some (.lst (gs.map V.int)) ∧ H t = some (.tup tl.vs) ∧ GapsOk gs ∧ TlOk gs.length tl ∧
  ∀ (g o : Addr) (H' : Hp), H g = none → H o = none → (∀ b u, H b = some u → b ≠ p → H' b = some u) → RuleAt C H' p g t o gs tl → Q .non H'
theorem scInit : FnScope ["self", "gaps", "tail"] ["self", "gaps", "tail"] (defScope s_Rule_ddinitdd) := ⟨rfl, rfl, rfl, by decide +kernel, rfl, by decide +kernel, by decide +kernel⟩
theorem ok_init {f C fA fB fS fi : Addr} {fd fdA fdB fdS fdi : FuncData} (F : Fun K "__init__" "Rule.__init__" s_Rule_ddinitdd f fd) (T : Txt K mg C) (FI : Fun K "is_integer" "is_integer" s_is_integer fi fdi) (bI : Binds K fdi ["value"] []) (mI : mg "is_integer" = some (.ref fi))
    (FA : Fun K "are_gaps" "are_gaps" s_are_gaps fA fdA) (bA : Binds K fdA ["value", "most"] []) (mA : mg "are_gaps" = some (.ref fA)) (FB : Fun K "_is_tail" "_is_tail" s_is_tail fB fdB) (bB : Binds K fdB ["value", "many"] []) (mB : mg "_is_tail" = some (.ref fB))
    (FS : Fun K "sums" "sums" s_sums fS fdS) (bS : Binds K fdS ["gaps"] []) (mS : mg "sums" = some (.ref fS)) : FnOk P w K mg base CX0 3 f fd ["self", "gaps", "tail"] (spInit C) := by
  have GA : FnOk P w K mg base CX0 2 fA fdA ["value", "most"] spAreGaps := ok_areGaps FA T FI bI mI
  have GB : FnOk P w K mg base CX0 2 fB fdB ["value", "many"] spIsTail := ok_isTail FB T FI bI mI
  have GS : FnOk P w K mg base CX0 1 fS fdS ["gaps"] spSums := ok_sums FS
  obtain ⟨t1, m1⟩ := T.mMost
  refine F.ok scInit (fun vs H Q E h => ?_) (fun cdv A outer s H vs Q E hr h => ?_)
  · obtain ⟨p, dx, a, t, gs, tl, rfl, _⟩ := h
    rfl
  · obtain ⟨p, dx, a, t, gs, tl, rfl, hp, ha, ht, okG, okT, k⟩ := h
    refine ⟨_, (pss_cons (ps_if (pt_not (pt_val (pe_call GA hr rfl mA FA.kp bA .nil pass0 (pa_cons (pv 1) (pa_cons (pe_glob (v := .int 20) rfl m1 ⟨_, rfl⟩) pa_nil))))) (pss_one ps_never) pss_nil) (pss_cons (ps_if (pt_not (pt_val (pe_call GB hr rfl mB FB.kp bB .nil pass0 (pa_cons (pv 2) (pa_cons (pe_callB call_len_seq (by rfl) T.len (by decide +kernel) (pa_cons (pv 1) pa_nil)) pa_nil))))) (pss_one ps_never) pss_nil) (pss_cons (ps_fld (pv 0) (pe_callTy call_list_of (by rfl) T.list (by decide +kernel) (pa_cons (pv 1) pa_nil)) rfl) (pss_cons (ps_fld (pv 0) (pe_callTy call_tuple_of (by rfl) T.tuple (by decide +kernel) (pa_cons (pv 2) pa_nil)) rfl) (pss_one (ps_fld (pv 0) (pe_call GS (hr.mono (by decide)) rfl mS FS.kp bS .nil pass0 (pa_cons (pe_fld (pv 0) rfl) pa_nil)) rfl)))))), ?_⟩
    refine ⟨_, rfl, a, gs, 20, rfl, ha, okG, okG.1, fun H1 S1 => ⟨true, rfl, iteF ?_⟩⟩
    refine ⟨_, rfl, _, rfl, a, _, rfl, .inl (SqL.of (S1 _ _ ha)), t, tl, gs.length, ?_, S1 _ _ ht, okT, fun H2 S2 => ⟨true, rfl, iteF ?_⟩⟩
    · rw [List.length_map]
      rfl
    have S := S1.trans S2
    refine ⟨_, rfl, a, _, rfl, .inl (SqL.of (S _ _ ha)), fun g hg2 => ?_⟩
    have hg : H g = none := S.free hg2
    have npg : p ≠ g := ne_of_none hp hg
    have ntg : t ≠ g := ne_of_none ht hg
    have nag : a ≠ g := ne_of_none ha hg
    have npt : t ≠ p := ne_of ht hp (by intro z; cases z)
    have npa : a ≠ p := ne_of ha hp (by intro z; cases z)
    refine ⟨_, rfl, p, C, dx, [], rfl, (by rw [upd_ne npg]; exact S _ _ hp), T.cl, T.nG, (by show 0 < 1000; decide), ?_⟩
    refine ⟨_, rfl, t, _, rfl, .inr ⟨SqT.of (by rw [upd_ne npt, upd_ne ntg]; exact S _ _ ht), ?_⟩⟩
    refine ⟨_, rfl, p, C, dx, _, rfl, upd_same, T.cl, T.nT, (by show 1 < 1000; decide), ?_⟩
    have hgl : (putF "_tail" (.ref t) (putF "_gaps" (.ref g) [])).lookup ("_gaps" : Str) = some (V.ref g) := by
      rw [lookup_putF, if_neg kGT, lookup_putF, if_pos rfl]
    refine ⟨_, rfl, p, C, dx, _, _, rfl, upd_same, T.cl, T.nG, hgl, ?_⟩
    refine ⟨g, gs, rfl, (by rw [upd_ne npg.symm, upd_ne npg.symm, upd_same]), (by have := okG.1; omega), fun o H3 ho S3 ho3 => ?_⟩
    have hp3 := S3 _ _ (upd_same (H := upd (upd H2 g (.lst (gs.map V.int))) p (.ins C dx (putF "_gaps" (.ref g) []))) (a := p) (o := .ins C dx (putF "_tail" (.ref t) (putF "_gaps" (.ref g) []))))
    have npo : p ≠ o := ne_of_none (upd_same (H := upd (upd H2 g (.lst (gs.map V.int))) p (.ins C dx (putF "_gaps" (.ref g) []))) (a := p)) ho
    have ngo : g ≠ o := by
      refine ne_of_none (H := upd (upd (upd H2 g (.lst (gs.map V.int))) p (.ins C dx (putF "_gaps" (.ref g) []))) p (.ins C dx (putF "_tail" (.ref t) (putF "_gaps" (.ref g) [])))) (o := .lst (gs.map V.int)) ?_ ho
      rw [upd_ne npg.symm, upd_ne npg.symm, upd_same]
    have hoH : H o = none := by
      refine S.free ?_
      rw [upd_ne npo.symm, upd_ne npo.symm, upd_ne ngo.symm] at ho
      exact ho
    refine ⟨_, rfl, p, C, dx, _, rfl, hp3, T.cl, T.nO, (by show 2 < 1000; decide), ?_⟩
    refine k g o _ hg hoH (fun b u e nb => ?_) ⟨⟨dx, upd_same⟩, ?_, ?_, ?_, okG, okT⟩
    · rw [upd_ne nb]
      refine S3 _ _ ?_
      rw [upd_ne nb, upd_ne nb, upd_ne (ne_of_none e hg)]
      exact S _ _ e
    · rw [upd_ne npg.symm]
      refine S3 _ _ ?_
      rw [upd_ne npg.symm, upd_ne npg.symm, upd_same]
    · rw [upd_ne npt]
      refine S3 _ _ ?_
      rw [upd_ne npt, upd_ne npt, upd_ne ntg]
      exact S _ _ ht
    · rw [upd_ne npo.symm]
      exact ho3

end
end RS
namespace RS
open PySem L2
section
variable {P : Program} {w : World} {K : PySem.W.Frag} {mg : Str → Option Value} {base : Heap}
/-! ### attempts, _first_repeating, period -/
def attV (gs : List Int) : Tl → V
  | .fin => .int ((gs.length : Int) + 1)
  | _ => .non
def spAtt (C : Addr) : Sp := fun vs H Q _ => ∃ (p g t o : Addr) (gs : List Int) (tl : Tl), vs = [.ref p] ∧ RuleAt C H p g t o gs tl ∧ Q (attV gs tl) H
theorem scSelf_attempts : FnScope ["self"] ["self"] (defScope s_Rule_attempts) := ⟨rfl, rfl, rfl, by decide +kernel, rfl, by decide +kernel, by decide +kernel⟩
theorem ok_attempts {f C : Addr} {fd : FuncData} (F : Fun K "attempts" "Rule.attempts" s_Rule_attempts f fd) (T : Txt K mg C) : FnOk P w K mg base CX0 1 f fd ["self"] (spAtt C) := by
  refine F.ok scSelf_attempts (fun vs H Q E h => ?_) (fun cdv A outer s H vs Q E hr h => ?_)
  · obtain ⟨p, g, t, o, gs, tl, rfl, _⟩ := h
    rfl
  · obtain ⟨p, g, t, o, gs, tl, rfl, R, k⟩ := h
    refine ⟨_, (pss_cons (ps_if (pt_cmpR op_eq (pe_ix ix_tup (pe_fld (pv 0) rfl) pe_int (fun _ _ => rfl)) pe_str (nomark _)) (pss_one (ps_ret (pe_callB call_len_seq (by rfl) T.len (by decide +kernel) (pa_cons (pe_fld (pv 0) rfl) pa_nil)))) pss_nil) (pss_one (ps_ret pe_non))), ?_⟩
    refine rdIs T R rfl ?_
    cases tl with
    | fin =>
      refine iteTb wEE ?_
      refine rdO T R rfl ⟨o, _, rfl, .inl (SqL.of R.ho), ?_⟩
      rw [List.length_map, offs_len]
      exact k
    | times b => exact iteFb wTE k
    | rep m => exact iteFb wRE k
def spFR (C : Addr) : Sp := fun vs H Q _ => ∃ (p g t o : Addr) (gs : List Int) (m : Nat), vs = [.ref p] ∧ RuleAt C H p g t o gs (.rep m) ∧ Q (.int ((gs.length - m : Nat) : Int)) H
theorem scSelf_fr : FnScope ["self"] ["self"] (defScope s_Rule_first_repeating) := ⟨rfl, rfl, rfl, by decide +kernel, rfl, by decide +kernel, by decide +kernel⟩
def frV (gs : List Int) : Tl → V
  | .rep m => .int ((gs.length - m : Nat) : Int)
  | _ => .non
def spFRA (C : Addr) : Sp := fun vs H Q _ => ∃ (p g t o : Addr) (gs : List Int) (tl : Tl), vs = [.ref p] ∧ RuleAt C H p g t o gs tl ∧ Q (frV gs tl) H
theorem ok_frA {f C : Addr} {fd : FuncData} (F : Fun K "first_repeating" "Rule.first_repeating" s_Rule_first_repeating f fd) (T : Txt K mg C) : FnOk P w K mg base CX0 1 f fd ["self"] (spFRA C) := by
  refine F.ok scSelf_fr (fun vs H Q E h => ?_) (fun cdv A outer s H vs Q E hr h => ?_)
  · obtain ⟨p, g, t, o, gs, tl, rfl, _⟩ := h
    rfl
  · obtain ⟨p, g, t, o, gs, tl, rfl, R, k⟩ := h
    refine ⟨_, (pss_cons (ps_if (pt_cmpR op_ne (pe_ix ix_tup (pe_fld (pv 0) rfl) pe_int (fun _ _ => rfl)) pe_str (nomark _)) (pss_one (ps_ret pe_non)) pss_nil) (pss_one (ps_ret (pe_op op_sub (pe_callB call_len_seq (by rfl) T.len (by decide +kernel) (pa_cons (pe_fld (pv 0) rfl) pa_nil)) (pe_ix ix_tup (pe_fld (pv 0) rfl) pe_int (fun _ _ => rfl)))))), ?_⟩
    refine rdNe T R rfl ?_
    cases tl with
    | fin => exact iteTb (congrArg not wER) k
    | times b => exact iteTb (congrArg not wTR) k
    | rep m =>
      refine iteFb (congrArg not wRR) ?_
      refine rdG T R rfl ⟨g, _, rfl, .inl (SqL.of R.hg), rdN T R rfl ⟨_, _, rfl, rfl, ?_⟩⟩
      have e : ((((gs.map V.int).length : Nat) : Int) - (m : Int)) = ((gs.length - m : Nat) : Int) := by
        have := R.okT.2
        rw [List.length_map]
        omega
      have k' : Q (.int ((gs.length - m : Nat) : Int)) H := k
      rw [← e] at k'
      exact k'
theorem ok_fr {f C : Addr} {fd : FuncData} (F : Fun K "first_repeating" "Rule.first_repeating" s_Rule_first_repeating f fd) (T : Txt K mg C) : FnOk P w K mg base CX0 1 f fd ["self"] (spFR C) := by
  refine F.ok scSelf_fr (fun vs H Q E h => ?_) (fun cdv A outer s H vs Q E hr h => ?_)
  · obtain ⟨p, g, t, o, gs, tl, rfl, _⟩ := h
    rfl
  · obtain ⟨p, g, t, o, gs, m, rfl, R, k⟩ := h
    refine ⟨_, (pss_cons (ps_if (pt_cmpR op_ne (pe_ix ix_tup (pe_fld (pv 0) rfl) pe_int (fun _ _ => rfl)) pe_str (nomark _)) (pss_one (ps_ret pe_non)) pss_nil) (pss_one (ps_ret (pe_op op_sub (pe_callB call_len_seq (by rfl) T.len (by decide +kernel) (pa_cons (pe_fld (pv 0) rfl) pa_nil)) (pe_ix ix_tup (pe_fld (pv 0) rfl) pe_int (fun _ _ => rfl)))))), ?_⟩
    refine rdNe T R rfl (iteFb (congrArg not wRR) ?_)
    refine rdG T R rfl ⟨g, _, rfl, .inl (SqL.of R.hg), rdN T R rfl ⟨_, _, rfl, rfl, ?_⟩⟩
    have e : ((((gs.map V.int).length : Nat) : Int) - (m : Int)) = ((gs.length - m : Nat) : Int) := by
      have := R.okT.2
      rw [List.length_map]
      omega
    rw [← e] at k
    exact k
end
end RS
namespace RS
open PySem L2
section
variable {P : Program} {w : World} {K : PySem.W.Frag} {mg : Str → Option Value} {base : Heap}
def perV (gs : List Int) : Tl → V
  | .rep m => .int (per gs m)
  | _ => .non
def spPer (C : Addr) : Sp := fun vs H Q _ => ∃ (p g t o : Addr) (gs : List Int) (tl : Tl), vs = [.ref p] ∧ RuleAt C H p g t o gs tl ∧ Q (perV gs tl) H
theorem scSelf_per : FnScope ["self"] ["self"] (defScope s_Rule_period) := ⟨rfl, rfl, rfl, by decide +kernel, rfl, by decide +kernel, by decide +kernel⟩
theorem ok_per {f C fR : Addr} {fd fdR : FuncData} (F : Fun K "period" "Rule.period" s_Rule_period f fd) (T : Txt K mg C) (FR : Fun K "first_repeating" "Rule.first_repeating" s_Rule_first_repeating fR fdR) (bR : Binds K fdR ["self"] []) (mR : Meth K C "first_repeating" fR) : FnOk P w K mg base CX0 2 f fd ["self"] (spPer C) := by
  have GR : FnOk P w K mg base CX0 1 fR fdR ["self"] (spFR C) := ok_fr FR T
  refine F.ok scSelf_per (fun vs H Q E h => ?_) (fun cdv A outer s H vs Q E hr h => ?_)
  · obtain ⟨p, g, t, o, gs, tl, rfl, _⟩ := h
    rfl
  · obtain ⟨p, g, t, o, gs, tl, rfl, R, k⟩ := h
    refine ⟨_, (pss_cons (ps_if (pt_cmpR op_ne (pe_ix ix_tup (pe_fld (pv 0) rfl) pe_int (fun _ _ => rfl)) pe_str (nomark _)) (pss_one (ps_ret pe_non)) pss_nil) (pss_one (ps_ret (pe_op op_sub (pe_ix ix_list (pe_fld (pv 0) rfl) (pe_un un_neg pe_int) (fun _ _ => rfl)) (pe_ix ix_list (pe_fld (pv 0) rfl) (pe_meth0 (pv 0) T.cl mR GR hr bR .nil pass0) (fun _ _ => rfl)))))), ?_⟩
    refine rdNe T R rfl ?_
    cases tl with
    | fin => exact iteTb (congrArg not wER) k
    | times b => exact iteTb (congrArg not wTR) k
    | rep m =>
      refine iteFb (congrArg not wRR) ?_
      refine rdLastO T R rfl (rdO T R rfl ?_)
      obtain ⟨dx, hob⟩ := R.ob
      refine ⟨_, rfl, p, dx, _, rfl, hob, flds_no _ _ _ (by decide +kernel) (by decide +kernel) (by decide +kernel), p, g, t, o, gs, m, rfl, R, ?_⟩
      exact ⟨o, _, _, _, rfl, rfl, SqL.of R.ho, at_map (offs_get gs (by omega)), _, _, rfl, rfl, k⟩
end
end RS
namespace RS
open PySem L2
section
variable {P : Program} {w : World} {K : PySem.W.Frag} {mg : Str → Option Value} {base : Heap}
/-! ### Rule.gaps, tail, least_gap -/
def spGaps (C : Addr) : Sp := fun vs H Q _ => ∃ (p g t o : Addr) (gs : List Int) (tl : Tl), vs = [.ref p] ∧ RuleAt C H p g t o gs tl ∧ ∀ l, H l = none → Q (.ref l) (upd H l (.lst (gs.map V.int)))
theorem scGaps : FnScope ["self"] ["self"] (defScope s_Rule_gaps) := ⟨rfl, rfl, rfl, by decide +kernel, rfl, by decide +kernel, by decide +kernel⟩
theorem ok_gaps {f C : Addr} {fd : FuncData} (F : Fun K "gaps" "Rule.gaps" s_Rule_gaps f fd) (T : Txt K mg C) : FnOk P w K mg base CX0 1 f fd ["self"] (spGaps C) := by
  refine F.ok scGaps (fun vs H Q E h => ?_) (fun cdv A outer s H vs Q E hr h => ?_)
  · obtain ⟨p, g, t, o, gs, tl, rfl, _⟩ := h
    rfl
  · obtain ⟨p, g, t, o, gs, tl, rfl, R, k⟩ := h
    refine ⟨_, (pss_one (ps_ret (pe_callTy call_list_of (by rfl) T.list (by decide +kernel) (pa_cons (pe_fld (pv 0) rfl) pa_nil)))), ?_⟩
    exact rdG T R rfl ⟨g, _, rfl, .inl (SqL.of R.hg), k⟩
def spTail (C : Addr) : Sp := fun vs H Q _ => ∃ (p g t o : Addr) (gs : List Int) (tl : Tl), vs = [.ref p] ∧ RuleAt C H p g t o gs tl ∧ Q (.ref t) H
theorem scTail : FnScope ["self"] ["self"] (defScope s_Rule_tail) := ⟨rfl, rfl, rfl, by decide +kernel, rfl, by decide +kernel, by decide +kernel⟩
theorem ok_tail {f C : Addr} {fd : FuncData} (F : Fun K "tail" "Rule.tail" s_Rule_tail f fd) (T : Txt K mg C) : FnOk P w K mg base CX0 1 f fd ["self"] (spTail C) := by
  refine F.ok scTail (fun vs H Q E h => ?_) (fun cdv A outer s H vs Q E hr h => ?_)
  · obtain ⟨p, g, t, o, gs, tl, rfl, _⟩ := h
    rfl
  · obtain ⟨p, g, t, o, gs, tl, rfl, R, k⟩ := h
    refine ⟨_, (pss_one (ps_ret (pe_fld (pv 0) rfl))), ?_⟩
    exact rdT T R rfl k
end
end RS
namespace RS
open PySem L2
/-! ### the law's own source of numbers -/
/-- all but what stands at a is as it was -/
def Kx (a : Addr) (H H' : Hp) : Prop := ∀ c u, c ≠ a → H c = some u → H' c = some u
theorem Kx.refl (a : Addr) (H : Hp) : Kx a H H := fun _ _ _ h => h
theorem Kx.trans {a : Addr} {H H1 H2 : Hp} (x : Kx a H H1) (y : Kx a H1 H2) : Kx a H H2 := fun c u n h => y c u n (x c u n h)
theorem Kx.of {a : Addr} {H H' : Hp} (x : Same H H') : Kx a H H' := fun c u _ h => x c u h
theorem Kx.upd {a : Addr} {H : Hp} {o : HO} : Kx a H (upd H a o) := fun c u n h => by
  rw [upd_ne n]
  exact h
theorem Kx.free {a : Addr} {H H' : Hp} (x : Kx a H H') {p : Addr} (n : p ≠ a) (h : H' p = none) : H p = none := by
  cases q : H p with
  | none => rfl
  | some o =>
    rw [x p o n q] at h
    cases h
structure Src (H : Hp) (a : Addr) (b : Nat) : Prop where
  ex : ∃ s0 s1 s2 : Int, H a = some (.lst [.int s0, .int s1, .int s2]) ∧ 0 ≤ s0 ∧ 0 ≤ s1 ∧ s1 < 2147483647 ∧ 0 ≤ s2 ∧ s2 ≤ b
theorem Src.mono {H H' : Hp} {a : Addr} {b : Nat} (h : Src H a b) (e : Same H H') : Src H' a b := by
  obtain ⟨s0, s1, s2, h1, h2⟩ := h.ex
  exact ⟨s0, s1, s2, e _ _ h1, h2⟩
theorem Src.le {H : Hp} {a : Addr} {b c : Nat} (h : Src H a b) (e : b ≤ c) : Src H a c := by
  obtain ⟨s0, s1, s2, h1, h2, h3, h4, h5, h6⟩ := h.ex
  exact ⟨s0, s1, s2, h1, h2, h3, h4, h5, by omega⟩
theorem Src.new {H : Hp} {a : Addr} {b : Nat} (h : Src H a b) {p : Addr} (hp : H p = none) : a ≠ p := by
  obtain ⟨s0, s1, s2, h1, _⟩ := h.ex
  exact ne_of_none h1 hp
section
variable {P : Program} {w : World} {K : PySem.W.Frag} {mg : Str → Option Value} {base : Heap}
def spSrcOf : Sp := fun vs H Q _ => ∃ c : Int, vs = [.int c] ∧ ∀ a H', H a = none → Same H H' → Src H' a 0 → Q (.ref a) H'
theorem scSrcOf : FnScope ["_law_cell"] ["_law_cell"] (defScope s_law_source_of) := ⟨rfl, rfl, rfl, by decide +kernel, rfl, by decide +kernel, by decide +kernel⟩
theorem ok_srcOf {f C : Addr} {fd : FuncData} (F : Fun K "_law_source_of" "_law_source_of" s_law_source_of f fd) (T : Txt K mg C) : FnOk P w K mg base CX0 1 f fd ["_law_cell"] spSrcOf := by
  refine F.ok scSrcOf (fun vs H Q E h => ?_) (fun cdv A outer s H vs Q E hr h => ?_)
  · obtain ⟨c, rfl, _⟩ := h
    rfl
  · obtain ⟨c, rfl, k⟩ := h
    refine ⟨_, (pss_one (ps_ret (pe_lst (pa_cons (pe_op op_mul (pv 0) (pe_callTy call_int1 (by rfl) T.int (by decide +kernel) (pa_cons (pe_cmpR op_ge (pv 0) (pe_op op_pow pe_int pe_int) (nomark _)) pa_nil))) (pa_cons (pe_op op_mod (pe_callTy call_int1 (by rfl) T.int (by decide +kernel) (pa_cons (pv 0) pa_nil)) pe_int) (pa_cons pe_int pa_nil)))))), ?_⟩
    refine ⟨_, rfl, _, rfl, _, _, rfl, rfl, ⟨by decide, by decide, by decide⟩, _, _, rfl, rfl, .inr ⟨_, rfl, ?_⟩⟩
    refine ⟨_, _, rfl, rfl, .inr ?_, _, rfl, .inl ⟨_, rfl, _, _, rfl, rfl, (by show (0 : Int) < 2147483647; decide), (by show 3 ≤ sizeLine; decide), fun a ha => ?_⟩⟩
    · by_cases hc : (10 : Int) ^ (18 : Int).toNat ≤ c
      · rw [decide_eq_true hc]; decide
      · rw [decide_eq_false hc]; decide
    · refine k a _ ha (same_new ha) ⟨_, _, _, upd_same, ?_, Int.emod_nonneg _ (by decide), Int.emod_lt_of_pos _ (by decide), by decide, by decide⟩
      by_cases hc : (10 : Int) ^ (18 : Int).toNat ≤ c
      · have e : (10 : Int) ^ (18 : Int).toNat = 1000000000000000000 := by decide
        rw [decide_eq_true hc]
        show 0 ≤ c * 1
        omega
      · rw [decide_eq_false hc]
        show 0 ≤ c * 0
        omega
def spNext : Sp := fun vs H Q _ => ∃ (a : Addr) (m : Int) (b : Nat), vs = [.ref a, .int m] ∧ Src H a b ∧ b ≤ 100000 ∧ 1 ≤ m ∧ m < 2 ^ 200 ∧ ∀ r H', 0 ≤ r → r < m → Kx a H H' → Src H' a (b + 1) → Q (.int r) H'
theorem scNext : FnScope ["_law_source", "_law_bound", "_law_result", "_law_prime", "_law_mixed"] ["_law_source", "_law_bound"] (defScope s_law_draw) := ⟨rfl, rfl, rfl, by decide +kernel, rfl, by decide +kernel, by decide +kernel⟩
theorem prime_at {s : Int} (h : 0 ≤ s) : ∃ pr : Int, atI [V.int 2147483647, V.int 2147483629, V.int 2147483587, V.int 2147483579, V.int 2147483563, V.int 2147483549, V.int 2147483543] (s % 7) = some (.int pr) ∧ 1 ≤ pr ∧ pr ≤ 2147483647 := by
  have h1 : s % 7 = 0 ∨ s % 7 = 1 ∨ s % 7 = 2 ∨ s % 7 = 3 ∨ s % 7 = 4 ∨ s % 7 = 5 ∨ s % 7 = 6 := by omega
  rcases h1 with h1 | h1 | h1 | h1 | h1 | h1 | h1 <;> rw [h1] <;> exact ⟨_, rfl, by decide, by decide⟩
theorem ok_next {f C : Addr} {fd : FuncData} (F : Fun K "_law_draw" "_law_draw" s_law_draw f fd) (T : Txt K mg C) : FnOk P w K mg base CX0 1 f fd ["_law_source", "_law_bound"] spNext := by
  refine F.ok scNext (fun vs H Q E h => ?_) (fun cdv A outer s H vs Q E hr h => ?_)
  · obtain ⟨a, m, b, rfl, _⟩ := h
    rfl
  · obtain ⟨a, m, b, rfl, S, hb, hm1, hm2, k⟩ := h
    obtain ⟨s0, s1, s2, ha, h0, h1, h1', h2, h2'⟩ := S.ex
    refine ⟨_, (pss_cons (ps_if (pt_cmpR op_gt (pe_ix ix_list (pv 0) pe_int (fun _ _ => rfl)) pe_int (nomark _)) (pss_cons (ps_set (i := 2) scNext.nd rfl (Or.inl rfl) (pe_op op_mod (pe_callTy call_int1 (by rfl) T.int (by decide +kernel) (pa_cons (pe_ix ix_list (pv 0) pe_int (fun _ _ => rfl)) pa_nil)) (pv 1))) (pss_cons (ps_asg (pe_op op_fdivW (pe_ix ix_list (pv 0) pe_int (fun _ _ => rfl)) (pv 1)) (pg_sub (pv 0) pe_int set_list)) (pss_one (ps_ret (pv 2))))) pss_nil) (pss_cons (ps_asg (pe_op op_add (pe_ix ix_list (pv 0) pe_int (fun _ _ => rfl)) pe_int) (pg_sub (pv 0) pe_int set_list)) (pss_cons (ps_set (i := 3) scNext.nd rfl (Or.inl rfl) (pe_ix ix_list (pe_lst (pa_cons pe_int (pa_cons pe_int (pa_cons pe_int (pa_cons pe_int (pa_cons pe_int (pa_cons pe_int (pa_cons pe_int pa_nil)))))))) (pe_op op_mod (pe_callTy call_int1 (by rfl) T.int (by decide +kernel) (pa_cons (pe_ix ix_list (pv 0) pe_int (fun _ _ => rfl)) pa_nil)) pe_int) (fun _ _ => rfl))) (pss_cons (ps_set (i := 4) scNext.nd rfl (Or.inl rfl) (pe_op op_mod (pe_callTy call_int1 (by rfl) T.int (by decide +kernel) (pa_cons (pe_op op_pow (pe_op op_add (pe_op op_add (pe_ix ix_list (pv 0) pe_int (fun _ _ => rfl)) (pe_op op_mul pe_int (pe_ix ix_list (pv 0) pe_int (fun _ _ => rfl)))) pe_int) pe_int) pa_nil)) (pv 3))) (pss_cons (ps_set (i := 4) scNext.nd rfl (Or.inl rfl) (pe_op op_mod (pe_callTy call_int1 (by rfl) T.int (by decide +kernel) (pa_cons (pe_op op_mul (pe_op op_add (pv 4) (pe_ix ix_list (pv 0) pe_int (fun _ _ => rfl))) (pe_op op_add (pe_op op_fdiv (pv 4) pe_int) pe_int)) pa_nil)) (pv 3))) (pss_one (ps_ret (pe_op op_mod (pe_callTy call_int1 (by rfl) T.int (by decide +kernel) (pa_cons (pe_op op_fdiv (pv 4) pe_int) pa_nil)) (pv 1))))))))), ?_⟩
    refine ⟨_, rfl, a, _, _, _, rfl, rfl, SqL.of ha, atI_nat (j := 0) rfl, _, _, rfl, rfl, _, rfl, ?_⟩
    by_cases hz : 0 < s0
    · refine iteTb (decide_eq_true hz) ?_
      refine ⟨_, rfl, a, _, _, _, rfl, rfl, SqL.of ha, atI_nat (j := 0) rfl, .inl ⟨_, rfl, _, rfl, _, _, rfl, rfl, by omega, ?_⟩⟩
      refine ⟨_, rfl, a, _, _, _, rfl, rfl, SqL.of ha, atI_nat (j := 0) rfl, _, rfl, _, _, rfl, rfl, wide_div (by omega) (b := 200) (by omega) (by decide) (by decide), _, rfl, a, _, _, 0, rfl, rfl, ha, rfl, ?_⟩
      refine ⟨_, rfl, k _ _ (Int.emod_nonneg _ (by omega)) (Int.emod_lt_of_pos _ (by omega)) Kx.upd ⟨s0 / m, s1, s2, upd_same, Int.ediv_nonneg h0 (by omega), h1, h1', h2, by omega⟩⟩
    · refine iteFb (decide_eq_false hz) ?_
      refine ⟨_, rfl, a, _, _, _, rfl, rfl, SqL.of ha, atI_nat (j := 2) rfl, _, _, rfl, rfl, _, rfl, a, _, _, 2, rfl, rfl, ha, rfl, ?_⟩
      refine ⟨by show 7 ≤ sizeLine; decide, fun l hl => ?_⟩
      have hal : (upd (upd H a (.lst [.int s0, .int s1, .int (s2 + 1)])) l (.lst [.int 2147483647, .int 2147483629, .int 2147483587, .int 2147483579, .int 2147483563, .int 2147483549, .int 2147483543])) a = some (.lst [.int s0, .int s1, .int (s2 + 1)]) := by
        rw [upd_ne (ne_of_none upd_same hl)]
        exact upd_same
      obtain ⟨pr, hpr, hp1, hp2⟩ := prime_at (s := s2 + 1) (by omega)
      refine ⟨_, rfl, a, _, _, _, rfl, rfl, SqL.of hal, atI_nat (j := 2) rfl, .inl ⟨_, rfl, _, _, rfl, rfl, (by show (0 : Int) < 7; decide), l, _, _, _, rfl, rfl, SqL.of upd_same, hpr, ?_⟩⟩
      refine ⟨_, rfl, a, _, _, _, rfl, rfl, SqL.of hal, atI_nat (j := 1) rfl, _, rfl, a, _, _, _, rfl, rfl, SqL.of hal, atI_nat (j := 2) rfl, _, _, rfl, rfl, .inl ⟨by decide, by decide⟩, _, _, rfl, rfl, _, _, rfl, rfl, _, _, rfl, rfl, ⟨by decide, by decide, by omega⟩, .inl ⟨_, rfl, _, rfl, _, _, rfl, rfl, by omega, ?_⟩⟩
      generalize hf : (s1 + 7919 * (s2 + 1) + 1) ^ (5 : Int).toNat % pr = fg
      have f0 : 0 ≤ fg := by rw [← hf]; exact Int.emod_nonneg _ (by omega)
      have f1 : fg < pr := by rw [← hf]; exact Int.emod_lt_of_pos _ (by omega)
      refine ⟨_, rfl, _, rfl, a, _, _, _, rfl, rfl, SqL.of hal, atI_nat (j := 2) rfl, _, _, rfl, rfl, _, rfl, _, _, rfl, rfl, ⟨by decide, by decide⟩, _, _, rfl, rfl, _, _, rfl, rfl, .inl ⟨by omega, by omega⟩, .inl ⟨_, rfl, _, rfl, _, _, rfl, rfl, by omega, ?_⟩⟩
      refine ⟨_, rfl, _, _, rfl, rfl, ⟨by decide, by decide⟩, .inl ⟨_, rfl, _, rfl, _, _, rfl, rfl, by omega, ?_⟩⟩
      refine k _ _ (Int.emod_nonneg _ (by omega)) (Int.emod_lt_of_pos _ (by omega)) (fun c u n e => ?_) ⟨s0, s1, s2 + 1, hal, h0, h1, h1', by omega, by omega⟩
      have e2 : (upd H a (.lst [.int s0, .int s1, .int (s2 + 1)])) c = some u := by
        rw [upd_ne n]
        exact e
      rw [upd_ne (ne_of_none e2 hl)]
      exact e2
def spOne : Sp := fun vs H Q _ => ∃ (a q : Addr) (xs : List V) (b : Nat), vs = [.ref a, .ref q] ∧ Src H a b ∧ b ≤ 100000 ∧ q ≠ a ∧ H q = some (.lst xs) ∧ 0 < xs.length ∧ xs.length < 1000 ∧ ∀ x H', x ∈ xs → Kx a H H' → Src H' a (b + 1) → Q x H'
theorem scOne : FnScope ["_law_source", "_law_options"] ["_law_source", "_law_options"] (defScope s_law_choice) := ⟨rfl, rfl, rfl, by decide +kernel, rfl, by decide +kernel, by decide +kernel⟩
theorem ok_one {f C fN : Addr} {fd fdN : FuncData} (F : Fun K "_law_choice" "_law_choice" s_law_choice f fd) (T : Txt K mg C) (FN : Fun K "_law_draw" "_law_draw" s_law_draw fN fdN) (bN : Binds K fdN ["_law_source", "_law_bound"] []) (mN : mg "_law_draw" = some (.ref fN)) :
    FnOk P w K mg base CX0 2 f fd ["_law_source", "_law_options"] spOne := by
  have GN : FnOk P w K mg base CX0 1 fN fdN ["_law_source", "_law_bound"] spNext := ok_next FN T
  refine F.ok scOne (fun vs H Q E h => ?_) (fun cdv A outer s H vs Q E hr h => ?_)
  · obtain ⟨a, q, xs, b, rfl, _⟩ := h
    rfl
  · obtain ⟨a, q, xs, b, rfl, S, hb, hne, hq, hx0, hx1, k⟩ := h
    refine ⟨_, (pss_one (ps_ret (pe_ix ix_list (pv 1) (pe_call GN hr rfl mN FN.kp bN .nil pass0 (pa_cons (pv 0) (pa_cons (pe_callB call_len_seq (by rfl) T.len (by decide +kernel) (pa_cons (pv 1) pa_nil)) pa_nil))) (fun _ _ => rfl)))), ?_⟩
    refine ⟨_, rfl, _, rfl, _, rfl, q, _, rfl, .inl (SqL.of hq), a, (xs.length : Int), b, rfl, S, hb, by omega, by omega, fun r H' r0 r1 kx S' => ?_⟩
    obtain ⟨j, rfl⟩ : ∃ j : Nat, r = (j : Int) := ⟨r.toNat, by omega⟩
    have hj : j < xs.length := by omega
    exact ⟨q, _, _, _, rfl, rfl, SqL.of (kx _ _ hne hq), atI_nat (List.getElem?_eq_getElem hj), k _ _ (List.getElem_mem hj) kx S'⟩
def spCell (K : PySem.W.Frag) : Sp := fun vs H Q _ => ∃ (a : Addr) (ns : List Int), vs = [.ref a, .int 0] ∧ SqL K H a (ns.map V.int) ∧ Q (.int (ns.getD 0 0)) H
theorem scCell : FnScope ["_law_script", "_law_index"] ["_law_script", "_law_index"] (defScope s_law_cell_at) := ⟨rfl, rfl, rfl, by decide +kernel, rfl, by decide +kernel, by decide +kernel⟩
theorem ok_cell {f C : Addr} {fd : FuncData} (F : Fun K "_law_cell_at" "_law_cell_at" s_law_cell_at f fd) (T : Txt K mg C) : FnOk P w K mg base CX0 1 f fd ["_law_script", "_law_index"] (spCell K) := by
  refine F.ok scCell (fun vs H Q E h => ?_) (fun cdv A outer s H vs Q E hr h => ?_)
  · obtain ⟨a, ns, rfl, _⟩ := h
    rfl
  · obtain ⟨a, ns, rfl, hs, k⟩ := h
    refine ⟨_, (pss_cons (ps_if (pt_cmpR op_lt (pv 1) (pe_callB call_len_seq (by rfl) T.len (by decide +kernel) (pa_cons (pv 0) pa_nil)) (nomark _)) (pss_one (ps_ret (pe_ix ix_list (pv 0) (pv 1) (fun _ _ => rfl)))) pss_nil) (pss_one (ps_ret pe_int))), ?_⟩
    refine ⟨_, rfl, _, rfl, a, _, rfl, .inl hs, _, _, rfl, rfl, _, rfl, ?_⟩
    rw [List.length_map]
    cases ns with
    | nil => exact iteFb (by decide) k
    | cons n r =>
      refine iteTb (decide_eq_true (by rw [List.length_cons]; omega)) ?_
      exact ⟨_, rfl, _, rfl, a, _, _, _, rfl, rfl, hs, atI_nat (j := 0) rfl, k⟩
end
end RS
namespace RS
open PySem L2
section
variable {P : Program} {w : World} {K : PySem.W.Frag} {mg : Str → Option Value} {base : Heap}
/-! ### check_starts: what is accepted -/
def spChS : Sp := fun vs H Q _ => ∃ (s : Addr) (bs : List Int) (few : Nat), vs = [.ref s, .int (few : Int)] ∧ H s = some (.lst (bs.map V.int)) ∧ few ≤ bs.length ∧ bs.length ≤ 40 ∧ ∀ H', Same H H' → Q .non H'
theorem scChS : FnScope ["value", "fewest", "at", "start"] ["value", "fewest"] (defScope s_check_starts) := ⟨rfl, rfl, rfl, by decide +kernel, rfl, by decide +kernel, by decide +kernel⟩
theorem ok_chS {f C fI : Addr} {fd fdI : FuncData} (F : Fun K "check_starts" "check_starts" s_check_starts f fd) (T : Txt K mg C) (mC : ∃ t, mg "MOST_CLIENTS" = some (.int 40 t))
    (GI : FnOk P w K mg base CX0 1 fI fdI ["value"] spIsInt) (bI : Binds K fdI ["value"] []) (mI : mg "is_integer" = some (.ref fI)) (kI : PySem.W.keepIn K (.ref fI) = true) : FnOk P w K mg base CX0 2 f fd ["value", "fewest"] spChS := by
  obtain ⟨t1, m1⟩ := mC
  refine F.ok scChS (fun vs H Q E h => ?_) (fun cdv A outer s H vs Q E hr h => ?_)
  · obtain ⟨s, bs, few, rfl, _⟩ := h
    rfl
  · obtain ⟨s, bs, few, rfl, hs, h1, h40, k⟩ := h
    refine ⟨_, (pss_cons (ps_if (PW.pt (pw_or (pt_not (pt_val (pe_callB call_isi (by rfl) T.isi (by decide +kernel) (pa_cons (pv 0) (pa_cons (pe_bltn (v := .ty "list") (by rfl) T.list (by decide +kernel) rfl) pa_nil))))) (pw_or1 (pt_not (pt_chain op_le op_le (pv 1) (pe_callB call_len_seq (by rfl) T.len (by decide +kernel) (pa_cons (pv 0) pa_nil)) (pe_glob (v := .int 40) rfl m1 ⟨_, rfl⟩)))))) (pss_one ps_never) pss_nil) (pss_one (ps_for PassesOwn.never rfl (pi_enum (by rfl) T.enum (pa_cons (pv 0) pa_nil)) (pg_tup rfl (pgs_cons (pg_name (i := 2) scChS.nd rfl (Or.inl rfl)) (pgs_cons (pg_name (i := 3) scChS.nd rfl (Or.inl rfl)) pgs_nil)))
        (pss_one (ps_if (pt_not (pt_val (pe_call GI hr rfl mI kI bI .nil pass0 (pa_cons (pv 3) pa_nil)))) (pss_one ps_never) pss_nil))))), ?_⟩
    refine ⟨_, rfl, _, _, _, _, _, rfl, .ty _, .base (.lst hs), kit_ty (r := true) (by decide +kernel), true, rfl, iteF ?_⟩
    refine ⟨_, rfl, _, rfl, s, _, rfl, .inl (SqL.of hs), _, _, rfl, rfl, _, rfl, ?_⟩
    rw [List.length_map]
    refine iteTb (decide_eq_true (by omega)) ?_
    refine ⟨_, _, rfl, rfl, _, rfl, iteFb (by rw [decide_eq_true (by omega)]; rfl) ?_⟩
    refine ⟨_, rfl, s, _, rfl, SqL.of hs, for_it (walk_enum (a := s) (xs := bs.map V.int)) (fun i σ H' => (∃ v1 v2, σ = [some (.ref s), some (.int (few : Int)), v1, v2]) ∧ Same H H') ⟨⟨_, _, rfl⟩, Same.refl H⟩ (fun i σ H' _ p => SqL.of (p.2 _ _ hs)) ?_ ?_⟩
    · rintro i x σ H1 H2 hi ⟨⟨v1, v2, rfl⟩, S⟩ ⟨T2, x1, y1, rfl, hT, rfl, hx1, hy1⟩
      obtain rfl := Option.some.inj hx1
      obtain ⟨b, _, rfl⟩ := map_of hy1
      have sT := same_new (o := .tup [V.int (i : Nat), .int b]) hT
      refine ⟨T2, _, rfl, SqT.of upd_same, rfl, _, _, rfl, _, _, rfl, rfl, ?_⟩
      exact ⟨_, rfl, b, rfl, true, rfl, iteF ⟨⟨_, _, rfl⟩, S.trans sT⟩⟩
    · rintro σ H1 ⟨_, S⟩
      exact k H1 S
end
end RS
namespace RS
open PySem L2
/-! ### offsets that repeat, residues -/
def repOffs (gs : List Int) (m : Nat) : List Int := (List.range m).map fun k => pre gs (gs.length - m + k)
def resid (gs : List Int) (m : Nat) (s : Int) : List Int := (repOffs gs m).map fun x => (s + x) % per gs m
theorem resid_len (gs : List Int) (m : Nat) (s : Int) : (resid gs m s).length = m := by simp [resid, repOffs]
theorem cut_last (xs : List V) (i : Nat) (h : i < xs.length) : cutV xs (some (i : Int)) (some (-1)) = (xs.drop i).take (xs.length - 1 - i) := by
  have e : HT.sIx xs.length xs.length (some (-1 : Int)) = xs.length - 1 := by
    show (if (-1 : Int) < 0 then (-1 + (xs.length : Int)).toNat else min (-1 : Int).toNat xs.length) = _
    rw [if_pos (by omega)]
    omega
  unfold cutV
  rw [HT.sIx_nat, e, Nat.min_eq_left (by omega)]
theorem cut_offs {gs : List Int} {m : Nat} (h1 : 1 ≤ m) (h2 : m ≤ gs.length) : cutV ((offs gs).map V.int) (some ((gs.length - m : Nat) : Int)) (some (-1)) = (repOffs gs m).map V.int := by
  have hl : ((offs gs).map V.int).length = gs.length + 1 := by rw [List.length_map, offs_len]
  rw [cut_last _ _ (by rw [hl]; omega), hl]
  refine List.ext_getElem? fun k => ?_
  unfold repOffs
  by_cases hk : k < m
  · rw [List.getElem?_take_of_lt (by omega), List.getElem?_drop, List.getElem?_map, offs_get gs (by omega), List.getElem?_map, List.getElem?_map, List.getElem?_range hk]
    rfl
  · rw [List.getElem?_eq_none (by rw [List.length_take, List.length_drop, hl]; omega), List.getElem?_eq_none (by simp; omega)]
section
variable {P : Program} {w : World} {K : PySem.W.Frag} {mg : Str → Option Value} {base : Heap}
def spLO (C : Addr) : Sp := fun vs H Q _ => ∃ (p g t o : Addr) (gs : List Int) (tl : Tl), vs = [.ref p] ∧ RuleAt C H p g t o gs tl ∧ ∀ q H', H q = none → Same H H' → H' q = some (.lst ((offs gs).map V.int)) → Q (.ref q) H'
theorem scLO : FnScope ["rule"] ["rule"] (defScope s_listed_offsets) := ⟨rfl, rfl, rfl, by decide +kernel, rfl, by decide +kernel, by decide +kernel⟩
theorem ok_lo {f C fS fG : Addr} {fd fdS fdG : FuncData} (F : Fun K "listed_offsets" "listed_offsets" s_listed_offsets f fd) (T : Txt K mg C) (GS : FnOk P w K mg base CX0 1 fS fdS ["gaps"] spSums) (bS : Binds K fdS ["gaps"] []) (mS : mg "sums" = some (.ref fS)) (kS : PySem.W.keepIn K (.ref fS) = true)
    (GG : FnOk P w K mg base CX0 1 fG fdG ["self"] (spGaps C)) (bG : Binds K fdG ["self"] []) (mG : Meth K C "gaps" fG) : FnOk P w K mg base CX0 2 f fd ["rule"] (spLO C) := by
  refine F.ok scLO (fun vs H Q E h => ?_) (fun cdv A outer s H vs Q E hr h => ?_)
  · obtain ⟨p, g, t, o, gs, tl, rfl, _⟩ := h
    rfl
  · obtain ⟨p, g, t, o, gs, tl, rfl, R, k⟩ := h
    refine ⟨_, (pss_one (ps_ret (pe_call GS hr rfl mS kS bS .nil pass0 (pa_cons (pe_meth0 (pv 0) T.cl mG GG hr bG .nil pass0) pa_nil)))), ?_⟩
    obtain ⟨dx, hob⟩ := R.ob
    have hl := R.okG.1
    refine ⟨_, rfl, p, dx, _, rfl, hob, flds_no _ _ _ (by decide +kernel) (by decide +kernel) (by decide +kernel), p, g, t, o, gs, tl, rfl, R, fun l hl0 => ?_⟩
    have S := same_new (o := .lst (gs.map V.int)) hl0
    refine ⟨l, gs, rfl, upd_same, by omega, fun q H' hq S' hq' => k q H' (S.free hq) (S.trans S') hq'⟩
def spRO (C : Addr) : Sp := fun vs H Q _ => ∃ (p g t o : Addr) (gs : List Int) (m : Nat), vs = [.ref p] ∧ RuleAt C H p g t o gs (.rep m) ∧ ∀ q H', H q = none → Same H H' → H' q = some (.lst ((repOffs gs m).map V.int)) → Q (.ref q) H'
theorem scRO : FnScope ["rule"] ["rule"] (defScope s_repeating_offsets) := ⟨rfl, rfl, rfl, by decide +kernel, rfl, by decide +kernel, by decide +kernel⟩
theorem ok_ro {f C fL fR : Addr} {fd fdL fdR : FuncData} (F : Fun K "repeating_offsets" "repeating_offsets" s_repeating_offsets f fd) (T : Txt K mg C) (GL : FnOk P w K mg base CX0 2 fL fdL ["rule"] (spLO C)) (bL : Binds K fdL ["rule"] []) (mL : mg "listed_offsets" = some (.ref fL)) (kL : PySem.W.keepIn K (.ref fL) = true)
    (GR : FnOk P w K mg base CX0 1 fR fdR ["self"] (spFR C)) (bR : Binds K fdR ["self"] []) (mR : Meth K C "first_repeating" fR) : FnOk P w K mg base CX0 3 f fd ["rule"] (spRO C) := by
  refine F.ok scRO (fun vs H Q E h => ?_) (fun cdv A outer s H vs Q E hr h => ?_)
  · obtain ⟨p, g, t, o, gs, m, rfl, _⟩ := h
    rfl
  · obtain ⟨p, g, t, o, gs, m, rfl, R, k⟩ := h
    have hr1 := hr.mono (show 1 ≤ 2 by decide)
    refine ⟨_, (pss_cons (ps_if (pt_cmpR op_isN (pe_meth0 (pv 0) T.cl mR GR hr1 bR .nil pass0) pe_non (nomark _)) (pss_one (ps_ret (pe_lst pa_nil))) pss_nil) (pss_one (ps_ret (pe_slice sl_list (pe_call GL hr rfl mL kL bL .nil pass0 (pa_cons (pv 0) pa_nil)) (po_some (pe_meth0 (pv 0) T.cl mR GR hr1 bR .nil pass0)) (po_some (pe_un un_neg pe_int)))))), ?_⟩
    obtain ⟨dx, hob⟩ := R.ob
    have hm0 : 1 ≤ m := R.okT.1
    have hm1 : m ≤ gs.length := R.okT.2
    have nF : (flds g t o).lookup ("first_repeating" : Str) = none := flds_no _ _ _ (by decide +kernel) (by decide +kernel) (by decide +kernel)
    refine ⟨_, rfl, p, dx, _, rfl, hob, nF, p, g, t, o, gs, m, rfl, R, rfl, _, rfl, iteFb (decide_eq_false fun e => nomatch e) ?_⟩
    refine ⟨_, rfl, p, g, t, o, gs, .rep m, rfl, R, fun q H1 hq S1 hq1 => ?_⟩
    have R1 := R.mono S1
    obtain ⟨dx1, hob1⟩ := R1.ob
    refine ⟨_, rfl, p, dx1, _, rfl, hob1, nF, p, g, t, o, gs, m, rfl, R1, _, rfl, _, rfl, _, rfl, q, _, rfl, SqL.of hq1, fun l hl => ?_⟩
    rw [cut_offs hm0 hm1]
    exact k l _ (S1.free hl) (S1.trans (same_new hl)) upd_same
def spRes (C : Addr) : Sp := fun vs H Q _ => ∃ (p g t o : Addr) (gs : List Int) (m : Nat) (s : Int), vs = [.ref p, .int s] ∧ RuleAt C H p g t o gs (.rep m) ∧ ∀ q H', H q = none → Same H H' → H' q = some (.lst ((resid gs m s).map V.int)) → Q (.ref q) H'
theorem scRes : FnScope ["rule", "start", "offset"] ["rule", "start"] (defScope s_residues) := ⟨rfl, rfl, rfl, by decide +kernel, rfl, by decide +kernel, by decide +kernel⟩
theorem ok_res {f C fO fP : Addr} {fd fdO fdP : FuncData} (F : Fun K "_residues" "_residues" s_residues f fd) (T : Txt K mg C) (GO : FnOk P w K mg base CX0 3 fO fdO ["rule"] (spRO C)) (bO : Binds K fdO ["rule"] []) (mO : mg "repeating_offsets" = some (.ref fO)) (kO : PySem.W.keepIn K (.ref fO) = true)
    (GP : FnOk P w K mg base CX0 2 fP fdP ["self"] (spPer C)) (bP : Binds K fdP ["self"] []) (mP : Meth K C "period" fP) : FnOk P w K mg base CX0 4 f fd ["rule", "start"] (spRes C) := by
  refine F.ok scRes (fun vs H Q E h => ?_) (fun cdv A outer s H vs Q E hr h => ?_)
  · obtain ⟨p, g, t, o, gs, m, s, rfl, _⟩ := h
    rfl
  · obtain ⟨p, g, t, o, gs, m, st, rfl, R, k⟩ := h
    have hr2 := hr.mono (show 2 ≤ 3 by decide)
    have hm0 : 1 ≤ m := R.okT.1
    have hm1 : m ≤ gs.length := R.okT.2
    have hp := per_bd R.okG hm0 hm1
    have hg := R.okG.1
    refine ⟨_, (pss_one (ps_ret (pe_lc (own := [("offset", 2)]) (g := gName 2) (tt := tYes) rfl scRes.nd (pi_list (pe_call GO hr rfl mO kO bO .nil pass0 (pa_cons (pv 0) pa_nil))) (blkOk_by (own := [("offset", 2)]) (N := ["rule", "start", "offset"]) (sc := defScope s_residues) (by decide +kernel))
        (fun _ _ _ _ _ => (pg_name (i := 2) scRes.nd rfl (Or.inl rfl))) (fun _ _ _ _ _ => pts_nil) (fun _ _ _ _ _ => (pe_op op_mod (pe_op op_add (pv 1) (pv 2)) (pe_meth0 (pv 0) T.cl mP GP hr2 bP .nil pass0)))))), ?_⟩
    refine ⟨_, rfl, p, g, t, o, gs, m, rfl, R, fun q H1 hq S1 hq1 => ?_⟩
    refine ⟨q, rfl, ⟨_, SqL.of hq1⟩, fun D hD => lc_map (a := q) (xs := (repOffs gs m).map V.int) ((resid gs m st).map V.int) (SqL.of hq1) hD (by simp [resid]) (by simp [repOffs]; omega) (fun i x y H2 Q2 hx hy S2 q2 => ?_) (fun H2 S2 h2 => k D H2 (S1.free hD) (S1.trans S2) h2)⟩
    obtain ⟨x, hx', rfl⟩ := map_of hx
    obtain ⟨y, hy', rfl⟩ := map_of hy
    have ey : y = (st + x) % per gs m := by
      unfold resid at hy'
      rw [List.getElem?_map, hx'] at hy'
      exact (Option.some.inj hy').symm
    have R2 := (R.mono S1).mono S2
    obtain ⟨dx, hob⟩ := R2.ob
    refine ⟨rfl, _, rfl, _, rfl, _, _, rfl, rfl, ?_⟩
    refine ⟨_, rfl, p, dx, _, rfl, hob, flds_no _ _ _ (by decide +kernel) (by decide +kernel) (by decide +kernel), p, g, t, o, gs, .rep m, rfl, R2, _, _, rfl, rfl, (by show (0 : Int) < per gs m; omega), ?_⟩
    have := q2 H2 (Same.refl H2)
    rw [ey] at this
    exact this
/-! ### tables: lists of lists -/
theorem mem_get {α : Type} {xs : List α} {i : Nat} {x : α} (h : xs[i]? = some x) : x ∈ xs := List.mem_of_getElem? h
def LsAt (H : Hp) (ts : List Addr) (T : List (List Int)) : Prop := ts.length = T.length ∧ ∀ (i : Nat) (r : List Int), T[i]? = some r → ∃ p, ts[i]? = some p ∧ H p = some (.lst (r.map V.int))
theorem LsAt.mono {H H' : Hp} {ts : List Addr} {T : List (List Int)} (h : LsAt H ts T) (S : Same H H') : LsAt H' ts T := ⟨h.1, fun i r e => let ⟨p, h1, h2⟩ := h.2 i r e; ⟨p, h1, S _ _ h2⟩⟩
theorem LsAt.nil (H : Hp) : LsAt H [] [] := ⟨rfl, fun i r e => by simp at e⟩
theorem LsAt.snoc {H : Hp} {ts : List Addr} {T : List (List Int)} {p : Addr} {r : List Int} (h : LsAt H ts T) (hp : H p = some (.lst (r.map V.int))) : LsAt H (ts ++ [p]) (T ++ [r]) := by
  refine ⟨by simp [h.1], fun i x e => ?_⟩
  by_cases hi : i < T.length
  · rw [List.getElem?_append_left hi] at e
    rw [List.getElem?_append_left (by rw [h.1]; exact hi)]
    exact h.2 i x e
  · rw [List.getElem?_append_right (by omega)] at e
    have e0 : i - T.length = 0 := by
      by_cases h0 : i - T.length = 0
      · exact h0
      · rw [List.getElem?_eq_none (by simp; omega)] at e
        cases e
    rw [e0] at e
    cases e
    rw [List.getElem?_append_right (by rw [h.1]; omega), h.1, e0]
    exact ⟨p, rfl, hp⟩
theorem LsAt.off {H : Hp} {ts : List Addr} {T : List (List Int)} {D : Addr} {o : HO} (h : LsAt H ts T) (n : ∀ p ∈ ts, p ≠ D) : LsAt (upd H D o) ts T :=
  ⟨h.1, fun i r e => let ⟨p, h1, h2⟩ := h.2 i r e; ⟨p, h1, by rw [upd_ne (n p (mem_get h1))]; exact h2⟩⟩
def spTab (C : Addr) : Sp := fun vs H Q _ => ∃ (p g t o b : Addr) (gs : List Int) (m : Nat) (bs : List Int), vs = [.ref p, .ref b] ∧ RuleAt C H p g t o gs (.rep m) ∧ H b = some (.lst (bs.map V.int)) ∧ bs.length ≤ 1000 ∧ ∀ q ts H', H q = none → Same H H' → H' q = some (.lst (ts.map V.ref)) → LsAt H' ts (bs.map (resid gs m)) → Q (.ref q) H'
theorem scTab : FnScope ["rule", "starts", "start"] ["rule", "starts"] (defScope s_residue_table) := ⟨rfl, rfl, rfl, by decide +kernel, rfl, by decide +kernel, by decide +kernel⟩
theorem ok_tab {f C fR : Addr} {fd fdR : FuncData} (F : Fun K "_residue_table" "_residue_table" s_residue_table f fd) (T : Txt K mg C) (GR : FnOk P w K mg base CX0 4 fR fdR ["rule", "start"] (spRes C)) (bR : Binds K fdR ["rule", "start"] []) (mR : mg "_residues" = some (.ref fR)) (kR : PySem.W.keepIn K (.ref fR) = true) : FnOk P w K mg base CX0 5 f fd ["rule", "starts"] (spTab C) := by
  refine F.ok scTab (fun vs H Q E h => ?_) (fun cdv A outer s H vs Q E hr h => ?_)
  · obtain ⟨p, g, t, o, b, gs, m, bs, rfl, _⟩ := h
    rfl
  · obtain ⟨p, g, t, o, b, gs, m, bs, rfl, R, hb, hbl, k⟩ := h
    refine ⟨_, (pss_one (ps_ret (pe_lc (own := [("start", 2)]) (g := gName 2) (tt := tYes) rfl scTab.nd (pi_list (pv 1)) (blkOk_by (own := [("start", 2)]) (N := ["rule", "starts", "start"]) (sc := defScope s_residue_table) (by decide +kernel))
        (fun _ _ _ _ _ => (pg_name (i := 2) scTab.nd rfl (Or.inl rfl))) (fun _ _ _ _ _ => pts_nil) (fun _ _ _ _ _ => (pe_call GR hr rfl mR kR bR .nil pass0 (pa_cons (pv 0) (pa_cons (pv 2) pa_nil))))))), ?_⟩
    refine ⟨_, rfl, b, rfl, ⟨_, SqL.of hb⟩, fun D hD => lc_list (a := b) (xs := bs.map V.int) (fun i H' => Same H H' ∧ ∃ ts, H' D = some (.lst (ts.map V.ref)) ∧ LsAt H' ts ((bs.take i).map (resid gs m)) ∧ ∀ p ∈ ts, p ≠ D) ⟨same_app hD (fun _ _ e => e), [], upd_same, LsAt.nil _, fun p hp => nomatch hp⟩ (fun i H' _ q => q.1.seq (SqL.of hb)) (fun i x H1 hx q => ?_) (fun H1 q => ?_)⟩
    · obtain ⟨S, ts, hts, L, nD⟩ := q
      have hi := (List.getElem?_eq_some_iff.mp hx).1
      rw [List.length_map] at hi
      obtain ⟨x, hx', rfl⟩ := map_of hx
      refine ⟨rfl, yes_t (iteT ?_)⟩
      refine ⟨_, rfl, _, rfl, p, g, t, o, gs, m, x, rfl, R.mono S, fun q H2 hq S2 hq2 => ?_⟩
      have hD2 := S2 _ _ hts
      have hlt := L.1
      rw [List.length_map, List.length_take] at hlt
      have nq : q ≠ D := fun z => by rw [z, hts] at hq; cases hq
      have nD2 : ∀ p ∈ ts ++ [q], p ≠ D := fun p' hp => by
        rcases List.mem_append.mp hp with h | h
        · exact nD p' h
        · rw [List.mem_singleton.mp h]
          exact nq
      refine ⟨_, hD2, ?_, same_app hD (S.trans S2), ts ++ [q], ?_, ?_, nD2⟩
      · rw [List.length_map]
        exact small_line (by omega)
      · rw [upd_same, List.map_append]
        rfl
      · rw [List.take_add_one, hx', List.map_append]
        exact ((L.mono S2).snoc hq2).off nD2
    · obtain ⟨S, ts, hts, L, _⟩ := q
      rw [List.length_map, List.take_length] at L
      exact k D ts H1 hD S hts L
end
end RS
namespace RS
open PySem L2
/-! ### closed sets of clients -/
def nV (n : Nat) : V := .int (n : Int)
def cnt (T : List (List Int)) (cs : List Nat) (r : Int) : Nat := (cs.map fun c => (T.getD c []).count r).sum
def fits (T : List (List Int)) (cs : List Nat) (c : Nat) : Bool := (T.getD c []).all fun r => decide (1 < cnt T cs r)
def stepC (T : List (List Int)) (cs : List Nat) : List Nat := cs.filter (fits T cs)
def ClosedS (T : List (List Int)) (M : List Nat) : Prop := ∀ c ∈ M, fits T M c = true
theorem sum_sub (f : Nat → Nat) : ∀ {M ks : List Nat}, M.Nodup → (∀ x ∈ M, x ∈ ks) → (M.map f).sum ≤ (ks.map f).sum
  | [], _, _, _ => by simp
  | x :: M, ks, hn, hs => by
    have hx := hs x (List.mem_cons_self ..)
    have e := ((List.perm_cons_erase hx).map f).sum_nat
    rw [List.map_cons, List.sum_cons] at e
    have ih := sum_sub f (M := M) (ks := ks.erase x) (List.nodup_cons.mp hn).2 fun y hy => (List.mem_erase_of_ne fun z => (List.nodup_cons.mp hn).1 (by rw [← z]; exact hy)).mpr (hs y (List.mem_cons_of_mem _ hy))
    rw [List.map_cons, List.sum_cons, e]
    omega
theorem cnt_sub {T : List (List Int)} {M ks : List Nat} (hn : M.Nodup) (hs : ∀ x ∈ M, x ∈ ks) (r : Int) : cnt T M r ≤ cnt T ks r := sum_sub _ hn hs
theorem fits_sub {T : List (List Int)} {M ks : List Nat} (hn : M.Nodup) (hs : ∀ x ∈ M, x ∈ ks) {c : Nat} (h : fits T M c = true) : fits T ks c = true := by
  unfold fits at h ⊢
  rw [List.all_eq_true] at h ⊢
  intro r hr
  have := of_decide_eq_true (h r hr)
  have := cnt_sub (T := T) hn hs r
  exact decide_eq_true (by omega)
theorem step_keeps {T : List (List Int)} {M ks : List Nat} (hc : ClosedS T M) (hn : M.Nodup) (hs : ∀ x ∈ M, x ∈ ks) : ∀ x ∈ M, x ∈ stepC T ks := fun x hx => List.mem_filter.mpr ⟨hs x hx, fits_sub hn hs (hc x hx)⟩
theorem step_closed {T : List (List Int)} {ks : List Nat} (h : stepC T ks = ks) : ClosedS T ks := fun c hc => by
  rw [← h] at hc
  exact (List.mem_filter.mp hc).2
theorem count_one (z y : Int) : List.count z [y] = if z = y then 1 else 0 := by
  by_cases e : z = y
  · subst e
    simp
  · rw [if_neg e, List.count_eq_zero]
    simpa using e
theorem mem_le_sum : ∀ {l : List Nat} {x : Nat}, x ∈ l → x ≤ l.sum
  | y :: l, x, h => by
    rw [List.sum_cons]
    rcases List.mem_cons.mp h with rfl | h
    · omega
    · have := mem_le_sum h
      omega
theorem cnt_snoc (T : List (List Int)) (cs : List Nat) (c : Nat) (r : Int) : cnt T (cs ++ [c]) r = cnt T cs r + (T.getD c []).count r := by
  unfold cnt
  rw [List.map_append, List.sum_append]
  simp
/-- ks is what is left of cs -/
structure Left (T : List (List Int)) (cs ks : List Nat) : Prop where
  sub : ks.Sublist cs
  all : ∀ M, ClosedS T M → M.Nodup → (∀ x ∈ M, x ∈ cs) → ∀ x ∈ M, x ∈ ks
theorem Left.refl (T : List (List Int)) (cs : List Nat) : Left T cs cs := ⟨List.Sublist.refl _, fun _ _ _ h => h⟩
theorem Left.step {T : List (List Int)} {cs ks : List Nat} (h : Left T cs ks) : Left T cs (stepC T ks) := ⟨(List.filter_sublist).trans h.sub, fun M hc hn hs => step_keeps hc hn (h.all M hc hn hs)⟩
/-- a dict that counts -/
def CntD (kvs : List (Key × V)) (f : Int → Nat) : Prop := ∀ r : Int, valV kvs (Sum.inl r) = if f r = 0 then none else some (.int (f r : Int))
theorem CntD.nil : CntD [] fun _ => 0 := fun r => by rw [if_pos rfl]; rfl
theorem CntD.get {kvs : List (Key × V)} {f : Int → Nat} (h : CntD kvs f) (r : Int) : (valV kvs (Sum.inl r)).getD (.int 0) = .int (f r : Int) := by
  rw [h r]
  split
  · rename_i e
    rw [e]
    rfl
  · rfl
theorem CntD.put {kvs : List (Key × V)} {f g : Int → Nat} (h : CntD kvs f) (r : Int) (hg : ∀ x, g x = f x + if x = r then 1 else 0) : CntD (putK kvs (Sum.inl r) (.int ((f r : Int) + 1))) g := fun x => by
  rw [valV_put, hg x]
  by_cases e : x = r
  · subst e
    rw [if_pos rfl, if_pos rfl, if_neg (by omega)]
    congr 2
  · rw [if_neg (fun z => e (Sum.inl.inj z)), if_neg e, h x]
    rfl
theorem CntD.congr {kvs : List (Key × V)} {f g : Int → Nat} (h : CntD kvs f) (e : ∀ x, g x = f x) : CntD kvs g := fun x => by rw [e x]; exact h x
theorem sel_filter {α : Type} (xs : List α) (f : α → Bool) (h : α → V) : ∀ i, i ≤ xs.length → selTo (fun j : Nat => (xs[j]?).bind fun c => if f c = true then some (h c) else none) i = ((xs.take i).filter f).map h
  | 0, _ => rfl
  | i + 1, hi => by
    rw [selTo_succ, sel_filter xs f h i (by omega), List.take_add_one, List.filter_append, List.map_append]
    congr 1
    rw [List.getElem?_eq_getElem (by omega)]
    show (if f xs[i] = true then some (h xs[i]) else none).toList = _
    cases e : f xs[i] <;> simp [e]
theorem nmap_of {xs : List Nat} {i : Nat} {x : V} (hx : (xs.map nV)[i]? = some x) : ∃ g, xs[i]? = some g ∧ x = .int (g : Int) := by
  rw [List.getElem?_map] at hx
  cases e : xs[i]? with
  | none => rw [e] at hx; cases hx
  | some g => rw [e] at hx; exact ⟨g, rfl, (Option.some.inj hx).symm⟩
section
variable {P : Program} {w : World} {K : PySem.W.Frag} {mg : Str → Option Value} {base : Heap}
def spGC : Sp := fun vs H Q _ => ∃ (tb c : Addr) (ts : List Addr) (T : List (List Int)) (cs : List Nat), vs = [.ref tb, .ref c] ∧ H tb = some (.lst (ts.map V.ref)) ∧ LsAt H ts T ∧ H c = some (.lst (cs.map nV)) ∧ (∀ x ∈ cs, x < T.length) ∧ cs.length ≤ 40 ∧ (∀ r ∈ T, r.length ≤ 20) ∧
  ∀ ks q H', H q = none → Same H H' → Left T cs ks → stepC T ks = ks → H' q = some (.lst (ks.map nV)) → Q (.ref q) H'
def gcN : List Str := ["table", "clients", "counts", "client", "residue", "kept"]
theorem scGC : FnScope gcN ["table", "clients"] (defScope s_greatest_closed) := ⟨rfl, rfl, rfl, by decide +kernel, rfl, by decide +kernel, by decide +kernel⟩
def scGc1 : Scope := { kind := .function, names := [(".0", .local), ("client", .local), ("all", .globalImplicit), ("counts", .cell), ("table", .cell)], isGenerator := false, isCoroutine := false }
theorem ok_gc {f C : Addr} {fd : FuncData} (F : Fun K "_greatest_closed" "_greatest_closed" s_greatest_closed f fd) (T : Txt K mg C) : FnOk P w K mg base CX0 1 f fd ["table", "clients"] spGC := by
  refine F.ok scGC (fun vs H Q E h => ?_) (fun cdv A outer s H vs Q E hr h => ?_)
  · obtain ⟨tb, c, ts, TT, cs, rfl, _⟩ := h
    rfl
  · obtain ⟨tb, c, ts, TT, cs, rfl, htb, hL, hc, hin, hcl, hrl, k⟩ := h
    have hu := hu_of hr
    refine ⟨_, pss_one (ps_while PassesOwn.never (pt_val pe_bl) (pss_cons (ps_set (i := 2) scGC.nd rfl (Or.inr rfl) pe_dnewK) (pss_cons (ps_for PassesOwn.never rfl (pi_list (pv 1)) (pg_name (i := 3) scGC.nd rfl (Or.inl rfl)) (pss_one (ps_for PassesOwn.never rfl (pi_list (pe_ix ix_list (pv 0) (pv 3) (fun _ _ => rfl))) (pg_name (i := 4) scGC.nd rfl (Or.inl rfl)) (pss_one (ps_dput hu (pv 2) (pv 4) (pe_op op_add (pe_dget2 hu (pv 2) (pv 4) pe_int ⟨by rfl, by rfl, by rfl, by rfl⟩) pe_int) rfl))))) (pss_cons (ps_setLc (i := 5) (own := [("client", 3)]) (g := gName 3) (by rfl) scGC.nd rfl rfl (sw_true rfl rfl rfl (by decide +kernel)) (pi_list (pv 1)) (blkOk_by (own := [("client", 3)]) (N := gcN) (sc := (defScope s_greatest_closed)) (by decide +kernel)) (fun _ _ _ _ _ => (pg_name (i := 3) scGC.nd rfl (Or.inl rfl))) (fun _ _ _ _ _ => pts_one (pt_val (pe_allK K (by rfl) rfl (by rfl) T.all (pe_lc (own := [("residue", 4)]) (g := gName 4) (tt := tYes) rfl scGC.nd (pi_listK K (by rfl) (pe_ixK K (by rfl) (pv 0) (pv 3))) (blkOk_by (own := [("residue", 4)]) (N := gcN) (sc := scGc1) (by decide +kernel)) (fun _ _ _ _ _ => (pg_name (i := 4) scGC.nd rfl (Or.inl rfl))) (fun _ _ _ _ _ => pts_nil) (fun _ _ _ _ _ => (pe_cmpR op_gt (pe_dget hu (pv 2) (pv 4) (fun _ _ => rfl)) pe_int (nomark _))))))) (fun _ _ _ _ _ => (pv 3))) (pss_cons (ps_if (pt_cmpR op_eq (pe_callB call_len_seq (by rfl) T.len (by decide +kernel) (pa_cons (pv 5) pa_nil)) (pe_callB call_len_seq (by rfl) T.len (by decide +kernel) (pa_cons (pv 1) pa_nil)) (nomark _)) (pss_one (ps_ret (pv 5))) pss_nil) (pss_one (ps_set (i := 1) scGC.nd rfl (Or.inl rfl) (pv 5)))))))), ?_⟩
    refine ⟨fun m σ H' => Same H H' ∧ ∃ c' ks v2 v3 v4 v5, σ = [some (.ref tb), some (.ref c'), v2, v3, v4, v5] ∧ H' c' = some (.lst (ks.map nV)) ∧ Left TT cs ks ∧ m = ks.length, ⟨cs.length, Same.refl H, c, cs, none, none, none, none, rfl, hc, Left.refl _ _, rfl⟩, ?_⟩
    rintro m σ H1 ⟨S1, c1, ks, v2, v3, v4, v5, rfl, hc1, hk, rfl⟩
    have hks : ∀ x ∈ ks, x < TT.length := fun x hx => hin x (hk.sub.subset hx)
    have hkl : ks.length ≤ 40 := Nat.le_trans hk.sub.length_le hcl
    have row : ∀ {i : Nat} {g : Nat}, ks[i]? = some g → ∃ (p : Addr) (r : List Int), TT[g]? = some r ∧ TT.getD g [] = r ∧ ts[g]? = some p ∧ H1 p = some (.lst (r.map V.int)) ∧ r.length ≤ 20 := fun {i g} h => by
      have hg := hks g (List.mem_of_getElem? h)
      have e := List.getElem?_eq_getElem hg
      obtain ⟨p, h1, h2⟩ := (hL.mono S1).2 g _ e
      exact ⟨p, _, e, by rw [List.getD_eq_getElem?_getD, e]; rfl, h1, h2, hrl _ (List.getElem_mem hg)⟩
    refine ⟨true, rfl, iteT ?_⟩
    refine ⟨fun σ' H' => Same H H' ∧ ∃ c' ks' v2 v3 v4 v5, σ' = [some (.ref tb), some (.ref c'), v2, v3, v4, v5] ∧ H' c' = some (.lst (ks'.map nV)) ∧ Left TT cs ks' ∧ ks'.length < ks.length, ?_, ?_⟩
    · rintro σ' H' ⟨S, c', ks', v2, v3, v4, v5, rfl, h1, h2, h3⟩
      exact ⟨_, h3, S, c', ks', v2, v3, v4, v5, rfl, h1, h2, rfl⟩
    intro d hd
    have hdt : tb ≠ d := ne_of_none (S1 _ _ htb) hd
    have hdc : c1 ≠ d := ne_of_none hc1 hd
    -- the counts
    refine ⟨_, rfl, c1, rfl, ⟨_, SqL.of (by rw [upd_ne hdc]; exact hc1)⟩, for_list (a := c1) (xs := ks.map nV) (fun i σ H' => Kx d H1 H' ∧ ∃ kvs v3 v4, σ = [some (.ref tb), some (.ref c1), some (.ref d), v3, v4, v5] ∧ H' d = some (.dK kvs) ∧ CntD kvs (cnt TT (ks.take i)) ∧ kvs.length ≤ 20 * i)
      ⟨fun b o nb e => by rw [upd_ne nb]; exact e, [], v3, v4, rfl, upd_same, CntD.nil, Nat.zero_le _⟩ (fun i σ H' _ q => SqL.of (q.1 _ _ hdc hc1)) ?_ ?_⟩
    · rintro i x σ H2 hx ⟨K2, kvs, w3, w4, rfl, hd2, hC, hkv⟩
      have hi := (List.getElem?_eq_some_iff.mp hx).1
      rw [List.length_map] at hi
      obtain ⟨g, hg, rfl⟩ := nmap_of hx
      obtain ⟨p, r, hr0, hr1, hp, hpr, hr20⟩ := row hg
      have npd : p ≠ d := ne_of_none hpr hd
      refine ⟨_, rfl, _, rfl, tb, _, _, .ref p, rfl, rfl, SqL.of (K2 _ _ hdt (S1 _ _ htb)), atI_nat (by rw [List.getElem?_map, hp]; rfl), ?_⟩
      refine ⟨p, rfl, ⟨_, SqL.of (K2 _ _ npd hpr)⟩, for_list (a := p) (xs := r.map V.int) (fun j σ H' => Kx d H1 H' ∧ ∃ kvs v4, σ = [some (.ref tb), some (.ref c1), some (.ref d), some (.int (g : Int)), v4, v5] ∧ H' d = some (.dK kvs) ∧ CntD kvs (fun y => cnt TT (ks.take i) y + (r.take j).count y) ∧ kvs.length ≤ 20 * i + j)
        ⟨K2, kvs, w4, rfl, hd2, hC.congr (fun y => by simp), hkv⟩ (fun j σ H' _ q => SqL.of (q.1 _ _ npd hpr)) ?_ ?_⟩
      · rintro j x σ H3 hx ⟨K3, kvs3, w4, rfl, hd3, hC3, hkv3⟩
        have hj := (List.getElem?_eq_some_iff.mp hx).1
        rw [List.length_map] at hj
        obtain ⟨y, hy, rfl⟩ := map_of hx
        refine ⟨_, rfl, d, rfl, .inl ⟨kvs3, .inl hd3⟩, _, rfl, _, DGet.k (k := Sum.inl y) hd3, ?_⟩
        rw [hC3.get y]
        refine ⟨_, _, rfl, rfl, _, rfl, _, rfl, d, _, rfl, DPut.k (k := Sum.inl y) hd3 (small_line (by omega)), ?_⟩
        refine ⟨K3.trans Kx.upd, _, _, rfl, upd_same, hC3.put y (fun z => ?_), ?_⟩
        · rw [List.take_add_one, hy, List.count_append]
          show _ + (_ + List.count z [y]) = _
          rw [count_one]
          omega
        · exact Nat.le_trans (length_putK _ _ _) (by omega)
      · rintro σ H3 ⟨K3, kvs3, w4, rfl, hd3, hC3, hkv3⟩
        rw [List.length_map, List.take_length] at hC3
        rw [List.length_map] at hkv3
        refine ⟨K3, kvs3, _, _, rfl, hd3, hC3.congr (fun y => ?_), by omega⟩
        rw [List.take_add_one, hg]
        show cnt TT (ks.take i ++ [g]) y = _
        rw [cnt_snoc, hr1]
    rintro σ H2 ⟨K2, kvs, w3, w4, rfl, hd2, hC, _⟩
    rw [List.length_map, List.take_length] at hC
    have S2 : Same H H2 := fun b o e => K2 _ _ (ne_of_none (S1 _ _ e) hd) (S1 _ _ e)
    have hc2 := K2 _ _ hdc hc1
    -- what is kept
    refine ⟨_, rfl, c1, rfl, ⟨_, SqL.of hc2⟩, fun D hD => lc_sel (a := c1) (xs := ks.map nV) (fun i : Nat => (ks[i]?).bind fun c => if fits TT ks c = true then some (nV c) else none) (SqL.of hc2) hD (by rw [List.length_map]; omega) ?_ ?_⟩
    · rintro i x H3 Q3 hx S3 q
      obtain ⟨g, hg, rfl⟩ := nmap_of hx
      obtain ⟨p, r, hr0, hr1, hp, hpr, hr20⟩ := row hg
      have npd : p ≠ d := ne_of_none hpr hd
      have hp3 := S3 _ _ (K2 _ _ npd hpr)
      refine ⟨rfl, ?_⟩
      refine ⟨_, rfl, _, rfl, tb, _, _, .ref p, rfl, rfl, SqL.of (S3 _ _ (S2 _ _ htb)), atI_nat (by rw [List.getElem?_map, hp]; rfl), ?_⟩
      refine ⟨p, rfl, ⟨_, SqL.of hp3⟩, fun D2 hD2 => lc_map (a := p) (xs := r.map V.int) ((r.map fun y => decide (((cnt TT ks y : Nat) : Int) > 1)).map V.bl) (SqL.of hp3) hD2 (by simp) (by rw [List.length_map]; omega) (fun j x y H4 Q4 hx hy S4 q4 => ?_) (fun H4 S4 h4 => ?_)⟩
      · obtain ⟨x, hx', rfl⟩ := map_of hx
        have ey : y = .bl (decide (((cnt TT ks x : Nat) : Int) > 1)) := by
          rw [List.getElem?_map, List.getElem?_map, hx'] at hy
          exact (Option.some.inj hy).symm
        have hpos : cnt TT ks x ≠ 0 := by
          have h1 : x ∈ TT.getD g [] := by rw [hr1]; exact mem_get hx'
          have h2 := List.count_pos_iff.mpr h1
          have h3 := mem_le_sum (List.mem_map.mpr ⟨g, mem_get hg, rfl⟩ : (TT.getD g []).count x ∈ ks.map fun c => (TT.getD c []).count x)
          unfold cnt
          omega
        refine ⟨rfl, _, rfl, _, rfl, d, .int (cnt TT ks x : Int), rfl, ?_, _, _, rfl, rfl, ?_⟩
        · have := DGet.k (k := Sum.inl x) (S4 _ _ (S3 _ _ hd2))
          rw [hC x, if_neg hpos] at this
          exact this
        · rw [ey] at q4
          exact q4 H4 (Same.refl H4)
      · refine ⟨D2, _, rfl, SqL.of h4, _, rfl, ?_⟩
        have ef : (r.map fun y => decide (((cnt TT ks y : Nat) : Int) > 1)).all id = fits TT ks g := by
          unfold fits
          rw [hr1, List.all_map]
          congr 1
          funext y
          exact decide_eq_decide.mpr (by omega)
        rw [ef]
        have q5 := q H4 S4
        rw [hg] at q5
        have q5 : Q3 (if fits TT ks g = true then some (nV g) else none) H4 := q5
        cases hf : fits TT ks g with
        | true => rw [hf] at q5; exact iteT ⟨_, rfl, q5⟩
        | false => rw [hf] at q5; exact iteF q5
    rintro H3 S3 h3
    rw [List.length_map, sel_filter ks (fits TT ks) nV _ (Nat.le_refl _), List.take_length] at h3
    have h3 : H3 D = some (.lst ((stepC TT ks).map nV)) := h3
    refine ⟨_, rfl, D, _, rfl, .inl (SqL.of h3), _, rfl, c1, _, rfl, .inl (SqL.of (S3 _ _ hc2)), rfl, _, rfl, ?_⟩
    have hsl : (stepC TT ks).length ≤ ks.length := (List.filter_sublist).length_le
    rw [List.length_map, List.length_map]
    by_cases he : (stepC TT ks).length = ks.length
    · refine iteTb (by rw [he]; exact decide_eq_true rfl) ?_
      have hst : stepC TT ks = ks := (List.filter_sublist).eq_of_length he
      rw [hst] at h3
      exact ⟨_, rfl, k ks D H3 ((S2.free hD)) (S2.trans S3) hk hst h3⟩
    · refine iteFb (decide_eq_false fun z => he (by have := V.int.inj z; omega)) ?_
      exact ⟨_, rfl, S2.trans S3, D, stepC TT ks, _, _, _, _, rfl, h3, hk.step, by omega⟩
end
end RS
namespace RS
open PySem L2
theorem inV_int (v : Int) (os : List Int) : inV (.int v) (os.map V.int) = decide (v ∈ os) := by
  rw [Bool.eq_iff_iff, decide_eq_true_iff]
  unfold inV
  rw [List.any_eq_true]
  constructor
  · rintro ⟨y, hy, e⟩
    obtain ⟨z, hz, rfl⟩ := List.mem_map.mp hy
    have e : (z == v) = true := e
    rw [← eq_of_beq e]
    exact hz
  · intro h
    exact ⟨.int v, List.mem_map.mpr ⟨v, h, rfl⟩, (beq_self_eq_true v : (v == v) = true)⟩
theorem flat_ints (os : List Int) : (os.map V.int).all flatV = true := by
  rw [List.all_eq_true]
  intro x hx
  obtain ⟨z, _, rfl⟩ := List.mem_map.mp hx
  rfl
theorem nV_ints (xs : List Nat) : xs.map nV = (xs.map fun n : Nat => (n : Int)).map V.int := by
  rw [List.map_map]
  rfl
/-! ### partners -/
def near (T : List (List Int)) (M : List Nat) (c : Nat) (r : Int) : List Nat := M.filter fun o => decide (o ≠ c) && decide (r ∈ T.getD o [])
def mates (T : List (List Int)) (M : List Nat) (c : Nat) : List Nat := (T.getD c []).map fun r => (near T M c r).headD 0
theorem head_least {xs : List Nat} (h : xs.Pairwise (· < ·)) {m : Nat} (hm : m ∈ xs) (hl : ∀ y ∈ xs, m ≤ y) : xs.headD 0 = m := by
  cases xs with
  | nil => cases hm
  | cons x r =>
    rcases List.mem_cons.mp hm with rfl | hm
    · rfl
    · have h1 := (List.pairwise_cons.mp h).1 m hm
      have h2 := hl x (List.mem_cons_self ..)
      omega
section
variable {P : Program} {w : World} {K : PySem.W.Frag} {mg : Str → Option Value} {base : Heap}
def spPart : Sp := fun vs H Q _ => ∃ (tb ms : Addr) (ts : List Addr) (T : List (List Int)) (M : List Nat) (c : Nat), vs = [.ref tb, .int (c : Int), .ref ms] ∧ H tb = some (.lst (ts.map V.ref)) ∧ LsAt H ts T ∧ H ms = some (.lst (M.map nV)) ∧ (∀ x ∈ M, x < T.length) ∧ c < T.length ∧ M.Pairwise (· < ·) ∧ M.length ≤ 40 ∧ (∀ r ∈ T, r.length ≤ 20) ∧
  (∀ r ∈ T.getD c [], near T M c r ≠ []) ∧ ∀ q H', H q = none → Same H H' → H' q = some (.tup ((mates T M c).map nV)) → Q (.ref q) H'
def paN : List Str := ["table", "client", "clients", "others", "other", "residue"]
theorem scPart : FnScope paN ["table", "client", "clients"] (defScope s_partners) := ⟨rfl, rfl, rfl, by decide +kernel, rfl, by decide +kernel, by decide +kernel⟩
def scPa1 : Scope := { kind := .function, names := [(".0", .local), ("residue", .cell), ("min", .globalImplicit), ("others", .cell), ("table", .cell)], isGenerator := false, isCoroutine := false }
theorem ok_part {f C : Addr} {fd : FuncData} (F : Fun K "_partners" "_partners" s_partners f fd) (T : Txt K mg C) : FnOk P w K mg base CX0 1 f fd ["table", "client", "clients"] spPart := by
  refine F.ok scPart (fun vs H Q E h => ?_) (fun cdv A outer s H vs Q E hr h => ?_)
  · obtain ⟨tb, ms, ts, TT, M, c, rfl, _⟩ := h
    rfl
  · obtain ⟨tb, ms, ts, TT, M, c, rfl, htb, hL, hms, hin, hct, hpw, hml, hrl, hne, k⟩ := h
    refine ⟨_, (pss_cons (ps_set (i := 3) scPart.nd rfl (Or.inr rfl) (pe_lc (own := [("other", 4)]) (g := gName 4) rfl scPart.nd (pi_list (pv 2)) (blkOk_by (own := [("other", 4)]) (N := paN) (sc := (defScope s_partners)) (by decide +kernel)) (fun _ _ _ _ _ => (pg_name (i := 4) scPart.nd rfl (Or.inl rfl))) (fun _ _ _ _ _ => pts_one (pt_cmpR op_ne (pv 4) (pv 1) (nomark _))) (fun _ _ _ _ _ => (pv 4)))) (pss_one (ps_ret (pe_callTy call_tuple_of (by rfl) T.tuple (by decide +kernel) (pa_cons (pe_lc (own := [("residue", 5)]) (g := gName 5) (tt := tYes) rfl scPart.nd (pi_list (pe_ix ix_list (pv 0) (pv 1) (fun _ _ => rfl))) (blkOk_by (own := [("residue", 5)]) (N := paN) (sc := defScope s_partners) (by decide +kernel)) (fun _ _ _ _ _ => (pg_name (i := 5) scPart.nd rfl (Or.inr rfl))) (fun _ _ _ _ _ => pts_nil) (fun _ _ _ _ _ =>
        (pe_minK K (by rfl) rfl (by rfl) T.min (pe_lc (own := [("other", 4)]) (g := gName 4) rfl scPart.nd (pi_listK K (by rfl) (pv 3)) (blkOk_by (own := [("other", 4)]) (N := paN) (sc := scPa1) (by decide +kernel)) (fun _ _ _ _ _ => (pg_name (i := 4) scPart.nd rfl (Or.inl rfl))) (fun _ _ _ _ _ => pts_one (pt_cmpR (r := rIn K false) op_in_seq (pv 5) (pe_ixK K (by rfl) (pv 0) (pv 4)) (by rfl))) (fun _ _ _ _ _ => (pv 4)))))) pa_nil))))), ?_⟩
    refine ⟨_, rfl, ms, rfl, ⟨_, SqL.of hms⟩, fun D hD => lc_sel (a := ms) (xs := M.map nV) (fun i : Nat => (M[i]?).bind fun o => if decide (o ≠ c) = true then some (nV o) else none) (SqL.of hms) hD (by rw [List.length_map]; omega) ?_ ?_⟩
    · rintro i x H1 Q1 hx S1 q
      obtain ⟨g, hg, rfl⟩ := nmap_of hx
      refine ⟨rfl, _, rfl, _, rfl, rfl, _, rfl, ?_⟩
      have q5 := q H1 (Same.refl H1)
      rw [hg] at q5
      have q5 : Q1 (if decide (g ≠ c) = true then some (nV g) else none) H1 := q5
      by_cases e : g = c
      · refine iteFb (by rw [e]; show (!decide (V.int (c : Int) = V.int (c : Int))) = false; rw [decide_eq_true rfl]; rfl) ?_
        rw [decide_eq_false (fun z => z e)] at q5
        exact q5
      · refine iteTb (by show (!decide (V.int (g : Int) = V.int (c : Int))) = true; rw [decide_eq_false (fun z => e (by have := V.int.inj z; omega))]; rfl) ⟨_, rfl, ?_⟩
        rw [decide_eq_true e] at q5
        exact q5
    rintro H1 S1 h1
    rw [List.length_map, sel_filter M (fun o => decide (o ≠ c)) nV _ (Nat.le_refl _), List.take_length] at h1
    generalize hO : M.filter (fun o => decide (o ≠ c)) = O at h1
    have hOs : O.Sublist M := by rw [← hO]; exact List.filter_sublist
    have hnear : ∀ r, near TT M c r = O.filter fun o => decide (r ∈ TT.getD o []) := fun r => by
      rw [← hO, List.filter_filter]
      unfold near
      congr 1
      funext o
      exact Bool.and_comm _ _
    have row : ∀ {H2 : Hp} {g : Nat}, Same H H2 → g < TT.length → ∃ (p : Addr) (r : List Int), TT.getD g [] = r ∧ ts[g]? = some p ∧ H2 p = some (.lst (r.map V.int)) ∧ r.length ≤ 20 := fun {H2 g} S hg => by
      have e := List.getElem?_eq_getElem hg
      obtain ⟨p, h1, h2⟩ := (hL.mono S).2 g _ e
      exact ⟨p, _, by rw [List.getD_eq_getElem?_getD, e]; rfl, h1, h2, hrl _ (List.getElem_mem hg)⟩
    obtain ⟨p, r, hr1, hp, hpr, hr20⟩ := row S1 hct
    refine ⟨_, rfl, _, rfl, tb, _, _, .ref p, rfl, rfl, SqL.of (S1 _ _ htb), atI_nat (by rw [List.getElem?_map, hp]; rfl), ?_⟩
    have hml2 : (mates TT M c).length = r.length := by unfold mates; rw [hr1, List.length_map]
    refine ⟨p, rfl, ⟨_, SqL.of hpr⟩, fun D2 hD2 => lc_map (a := p) (xs := r.map V.int) ((mates TT M c).map nV) (SqL.of hpr) hD2 (by rw [List.length_map, List.length_map, hml2]) (by rw [List.length_map]; omega) (fun j x y H2 Q2 hx hy S2 q2 => ?_) (fun H2 S2 h2 => ?_)⟩
    · obtain ⟨x, hx', rfl⟩ := map_of hx
      have hxm : x ∈ TT.getD c [] := by rw [hr1]; exact mem_get hx'
      have ey : y = nV ((near TT M c x).headD 0) := by
        unfold mates at hy
        rw [List.getElem?_map, List.getElem?_map, hr1, hx'] at hy
        exact (Option.some.inj hy).symm
      have S12 := S1.trans S2
      refine ⟨rfl, _, rfl, D, rfl, ⟨_, SqL.of (S2 _ _ h1)⟩, fun D3 hD3 => lc_sel (a := D) (xs := O.map nV) (fun i : Nat => (O[i]?).bind fun o => if decide (x ∈ TT.getD o []) = true then some (nV o) else none) (SqL.of (S2 _ _ h1)) hD3 (by rw [List.length_map]; have := hOs.length_le; omega) ?_ ?_⟩
      · rintro i z H3 Q3 hz S3 q
        obtain ⟨g, hg, rfl⟩ := nmap_of hz
        obtain ⟨po, ro, hro, hpo, hpro, _⟩ := row (S12.trans S3) (hin g (hOs.subset (mem_get hg)))
        refine ⟨rfl, _, rfl, _, rfl, _, rfl, tb, _, _, .ref po, rfl, rfl, SqL.of (S3 _ _ (S12 _ _ htb)), atI_nat (by rw [List.getElem?_map, hpo]; rfl), po, _, rfl, .inl (SqL.of hpro), rfl, flat_ints _, _, rfl, ?_⟩
        have q5 := q H3 (Same.refl H3)
        rw [hg] at q5
        have q5 : Q3 (if decide (x ∈ TT.getD g []) = true then some (nV g) else none) H3 := q5
        rw [hro] at q5
        show if inV (V.int x) (ro.map V.int) = true then _ else _
        rw [inV_int]
        by_cases e : x ∈ ro
        · rw [decide_eq_true e] at q5 ⊢
          exact iteT ⟨_, rfl, q5⟩
        · rw [decide_eq_false e] at q5 ⊢
          exact iteF q5
      · rintro H3 S3 h3
        rw [List.length_map, sel_filter O (fun o => decide (x ∈ TT.getD o [])) nV _ (Nat.le_refl _), List.take_length, ← hnear x, nV_ints] at h3
        have hne2 := hne x hxm
        refine ⟨D3, _, rfl, SqL.of h3, by rw [List.length_map]; exact List.length_pos_iff.mpr hne2, fun m hm hle => ?_⟩
        obtain ⟨n, hn, rfl⟩ := List.mem_map.mp hm
        have hh := head_least (hpw.sublist List.filter_sublist) hn (fun y hy => by have := hle (y : Int) (List.mem_map.mpr ⟨y, hy, rfl⟩); omega)
        have hh : (near TT M c x).headD 0 = n := hh
        rw [ey, hh] at q2
        exact q2 H3 S3
    · exact ⟨D2, _, rfl, .inl ⟨SqL.of h2, fun q hq => k q _ (S1.free (S2.free hq)) ((S1.trans S2).trans (same_new hq)) upd_same⟩⟩
end
end RS
namespace RS
open PySem L2
/-! ### lists of ints as data -/
theorem ints_dp {K : PySem.W.Frag} {H : Hp} : ∀ ns : List Int, DpAll K H (ns.map V.int) (ns.map PyData.int)
  | [] => .nil
  | n :: r => .cons (.int n) (ints_dp r)
theorem list_dp {K : PySem.W.Frag} {H : Hp} {a : Addr} {ns : List Int} (h : SqL K H a (ns.map V.int)) : Dp K H (.ref a) (.list (ns.map PyData.int)) := .lst h (ints_dp ns)
theorem list_eqv (ns ms : List Int) : PyData.eqv (.list (ns.map PyData.int)) (.list (ms.map PyData.int)) = decide (ns = ms) := PySem.W.ked_eqvAll ns ms
end RS
namespace RS
open PySem L2
section
variable {P : Program} {w : World} {K : PySem.W.Frag} {mg : Str → Option Value} {base : Heap}
/-! ### the checks -/
def spCkR (C : Addr) : Sp := fun vs H Q _ => ∃ (p g t o : Addr) (gs : List Int) (m : Nat), vs = [.ref p] ∧ RuleAt C H p g t o gs (.rep m) ∧ Q .non H
theorem scCkR : FnScope ["rule"] ["rule"] (defScope s_check_repeating) := ⟨rfl, rfl, rfl, by decide +kernel, rfl, by decide +kernel, by decide +kernel⟩
theorem ok_ckR {f C fR : Addr} {fd fdR : FuncData} (F : Fun K "_check_repeating" "_check_repeating" s_check_repeating f fd) (T : Txt K mg C) (GR : FnOk P w K mg base CX0 1 fR fdR ["self"] (spFR C)) (bR : Binds K fdR ["self"] []) (mR : Meth K C "first_repeating" fR) : FnOk P w K mg base CX0 2 f fd ["rule"] (spCkR C) := by
  refine F.ok scCkR (fun vs H Q E h => ?_) (fun cdv A outer s H vs Q E hr h => ?_)
  · obtain ⟨p, g, t, o, gs, m, rfl, _⟩ := h
    rfl
  · obtain ⟨p, g, t, o, gs, m, rfl, R, k⟩ := h
    refine ⟨_, (pss_one (ps_if (pt_cmpR op_isN (pe_meth0 (pv 0) T.cl mR GR hr bR .nil pass0) pe_non (nomark _)) (pss_one ps_never) pss_nil)), ?_⟩
    obtain ⟨dx, hob⟩ := R.ob
    exact ⟨_, rfl, p, dx, _, rfl, hob, flds_no _ _ _ (by decide +kernel) (by decide +kernel) (by decide +kernel), p, g, t, o, gs, m, rfl, R, rfl, _, rfl, iteFb (decide_eq_false fun e => nomatch e) k⟩
def spCkL (C : Addr) : Sp := fun vs H Q _ => ∃ (p g t o b : Addr) (gs : List Int) (m : Nat) (bs : List Int), vs = [.ref p, .ref b] ∧ RuleAt C H p g t o gs (.rep m) ∧ H b = some (.lst (bs.map V.int)) ∧ 1 ≤ bs.length ∧ bs.length ≤ 40 ∧ ∀ H', Same H H' → Q .non H'
theorem scCkL : FnScope ["rule", "starts"] ["rule", "starts"] (defScope s_check_clients) := ⟨rfl, rfl, rfl, by decide +kernel, rfl, by decide +kernel, by decide +kernel⟩
theorem ok_ckL {f C fR fS : Addr} {fd fdR fdS : FuncData} (F : Fun K "_check_clients" "_check_clients" s_check_clients f fd) (T : Txt K mg C) (GR : FnOk P w K mg base CX0 2 fR fdR ["rule"] (spCkR C)) (bR : Binds K fdR ["rule"] []) (mR : mg "_check_repeating" = some (.ref fR)) (kR : PySem.W.keepIn K (.ref fR) = true)
    (GS : FnOk P w K mg base CX0 2 fS fdS ["value", "fewest"] spChS) (bS : Binds K fdS ["value", "fewest"] []) (mS : mg "check_starts" = some (.ref fS)) (kS : PySem.W.keepIn K (.ref fS) = true) : FnOk P w K mg base CX0 3 f fd ["rule", "starts"] (spCkL C) := by
  refine F.ok scCkL (fun vs H Q E h => ?_) (fun cdv A outer s H vs Q E hr h => ?_)
  · obtain ⟨p, g, t, o, b, gs, m, bs, rfl, _⟩ := h
    rfl
  · obtain ⟨p, g, t, o, b, gs, m, bs, rfl, R, hb, h1, h40, k⟩ := h
    refine ⟨_, (pss_cons (ps_expr (pe_call GR hr rfl mR kR bR .nil pass0 (pa_cons (pv 0) pa_nil))) (pss_one (ps_expr (pe_call GS hr rfl mS kS bS .nil pass0 (pa_cons (pv 1) (pa_cons pe_int pa_nil)))))), ?_⟩
    exact ⟨_, rfl, p, g, t, o, gs, m, rfl, R, _, rfl, b, bs, 1, rfl, hb, h1, h40, fun H' S => k H' S⟩
/-! ### _are_ascending: a list of clients that ascends -/
def spAsc : Sp := fun vs H Q _ => ∃ (b : Addr) (M : List Nat) (n : Nat), vs = [.ref b, .int (n : Int)] ∧ H b = some (.lst (M.map nV)) ∧ M.Pairwise (· < ·) ∧ (∀ x ∈ M, x < n) ∧ M.length ≤ 40 ∧ ∀ H', Same H H' → Q (.bl true) H'
theorem scAsc : FnScope ["value", "many", "client"] ["value", "many"] (defScope s_are_ascending) := ⟨rfl, rfl, rfl, by decide +kernel, rfl, by decide +kernel, by decide +kernel⟩
theorem asc_eq {ns : List Int} {M : List Nat} (h1 : ns.Pairwise (· < ·)) (h2 : M.Pairwise (· < ·)) (h : ∀ k : Int, k ∈ ns ↔ k ∈ M.map fun n : Nat => (n : Int)) : ns = M.map fun n : Nat => (n : Int) := by
  have h3 : (M.map fun n : Nat => (n : Int)).Pairwise (· < ·) := by
    rw [List.pairwise_map]
    exact h2.imp fun h => by omega
  exact List.Perm.eq_of_pairwise (le := fun a b : Int => a < b) (fun a b _ _ h h' => by omega) h1 h3 ((List.perm_ext_iff_of_nodup (h1.imp fun h => by omega) (h3.imp fun h => by omega)).mpr h)
theorem ok_asc {f C fI : Addr} {fd fdI : FuncData} (F : Fun K "_are_ascending" "_are_ascending" s_are_ascending f fd) (T : Txt K mg C) (GI : FnOk P w K mg base CX0 1 fI fdI ["value"] spIsInt) (bI : Binds K fdI ["value"] []) (mI : mg "is_integer" = some (.ref fI)) (kI : PySem.W.keepIn K (.ref fI) = true) : FnOk P w K mg base CX0 2 f fd ["value", "many"] spAsc := by
  refine F.ok scAsc (fun vs H Q E h => ?_) (fun cdv A outer s H vs Q E hr h => ?_)
  · obtain ⟨b, M, n, rfl, _⟩ := h
    rfl
  · obtain ⟨b, M, n, rfl, hb, hpw, hin, hl, k⟩ := h
    refine ⟨_, (pss_cons (ps_if (pt_not (pt_val (pe_callB call_isi (by rfl) T.isi (by decide +kernel) (pa_cons (pv 0) (pa_cons (pe_bltn (v := .ty "list") (by rfl) T.list (by decide +kernel) rfl) pa_nil))))) (pss_one (ps_ret pe_bl)) pss_nil) (pss_cons (ps_if (pt_not (pt_val (pe_callB (cr_all rfl) (by rfl) T.all (by decide +kernel) (pa_cons (pe_lc (own := [("client", 2)]) (g := gName 2) (tt := tYes) rfl scAsc.nd (pi_list (pv 0)) (blkOk_by (own := [("client", 2)]) (N := (["value", "many", "client"])) (sc := (defScope s_are_ascending)) (by decide +kernel)) (fun _ _ _ _ _ => (pg_name (i := 2) scAsc.nd rfl (Or.inl rfl))) (fun _ _ _ _ _ => pts_nil) (fun _ _ _ _ _ => (pe_and (pe_call GI hr rfl mI kI bI .nil pass0 (pa_cons (pv 2) pa_nil)) (pe_one (pe_chain op_le op_lt pe_int (pv 2) (pv 1)))))) pa_nil)))) (pss_one (ps_ret pe_bl)) pss_nil) (pss_one (ps_ret (pe_cmpR (op_eqD hr.units) (pv 0) (pe_callB (cr_sortedSet rfl) (by rfl) T.sorted (by decide +kernel) (pa_cons (pe_callTy (cr_setL rfl) (by rfl) T.set (by decide +kernel) (pa_cons (pv 0) pa_nil)) pa_nil)) (nomark _)))))), ?_⟩
    refine ⟨_, rfl, _, _, _, _, _, rfl, .ty _, .base (.lst hb), kit_ty (r := true) (by decide +kernel), true, rfl, iteF ?_⟩
    refine ⟨_, rfl, b, rfl, ⟨_, SqL.of hb⟩, fun D hD => lc_map (a := b) (xs := M.map nV) ((M.map fun _ => true).map V.bl) (SqL.of hb) hD (by simp) (by rw [List.length_map]; omega) (fun i x y H1 Q1 hx hy S1 q => ?_) (fun H1 S1 h1 => ?_)⟩
    · obtain ⟨g, hg, rfl⟩ := nmap_of hx
      have ey : y = .bl true := by
        rw [List.getElem?_map, List.getElem?_map, hg] at hy
        exact (Option.some.inj hy).symm
      have hgn := hin g (mem_get hg)
      refine ⟨rfl, _, rfl, _, rfl, true, rfl, iteT ?_⟩
      refine ⟨_, rfl, _, _, rfl, rfl, _, rfl, iteTb (decide_eq_true (by omega)) ?_⟩
      refine ⟨_, rfl, _, _, rfl, rfl, ?_⟩
      rw [ey] at q
      show Q1 (.bl (decide ((g : Int) < (n : Int)))) H1
      rw [decide_eq_true (by omega)]
      exact q H1 (Same.refl H1)
    refine ⟨D, _, rfl, SqL.of h1, _, rfl, iteFb (by simp) ?_⟩
    refine ⟨_, rfl, _, rfl, b, (M.map fun n : Nat => (n : Int)), rfl, SqL.of (by rw [S1 _ _ hb, nV_ints]), by rw [List.length_map]; omega, fun p c hp hc => ?_⟩
    rw [List.length_map] at hc
    refine ⟨p, _, _, rfl, upd_same, by omega, fun ns q h2 h3 h4 hq => ?_⟩
    have e : ns = M.map fun n : Nat => (n : Int) := asc_eq h2 hpw fun k => by rw [h3 k, decide_eq_true_iff]
    have S3 := S1.trans ((same_new hp).trans (same_new (o := .lst (ns.map V.int)) hq))
    refine ⟨_, _, list_dp (SqL.of (by rw [S3 _ _ hb, nV_ints])), list_dp (SqL.of upd_same), PySem.W.ke_shaped_ints _, PySem.W.ke_shaped_ints _, ?_⟩
    rw [list_eqv, e, decide_eq_true rfl]
    rw [e] at S3
    exact k _ S3
end
end RS
namespace RS
open PySem L2
/-! ### residues of one client differ -/
theorem resid_nodup {gs : List Int} {m : Nat} (okG : GapsOk gs) (h1 : 1 ≤ m) (h2 : m ≤ gs.length) (s : Int) : (resid gs m s).Nodup := by
  unfold resid repOffs
  rw [List.map_map]
  refine List.pairwise_map.mpr ((List.pairwise_lt_range (n := m)).imp_of_mem fun {i j} hi hj hij => ?_)
  have hi := List.mem_range.mp hi
  have hj := List.mem_range.mp hj
  show (s + pre gs (gs.length - m + i)) % per gs m ≠ (s + pre gs (gs.length - m + j)) % per gs m
  intro e
  have a := pre_mono okG (gs.length - m + i) (j - i) (by omega)
  rw [show gs.length - m + i + (j - i) = gs.length - m + j by omega] at a
  have b := pre_mono okG (gs.length - m) i (by omega)
  have c := pre_mono okG (gs.length - m + j) (m - j) (by omega)
  rw [show gs.length - m + j + (m - j) = gs.length by omega] at c
  have hp : per gs m = pre gs gs.length - pre gs (gs.length - m) := rfl
  have d := Int.emod_eq_emod_iff_emod_sub_eq_zero.mp e.symm
  rw [Int.emod_eq_of_lt (by omega) (by omega)] at d
  omega
theorem tab_get {gs : List Int} {m : Nat} {bs : List Int} {c : Nat} {r : List Int} (h : (bs.map (resid gs m))[c]? = some r) : ∃ s, bs[c]? = some s ∧ r = resid gs m s := by
  rw [List.getElem?_map] at h
  cases e : bs[c]? with
  | none => rw [e] at h; cases h
  | some s => rw [e] at h; exact ⟨s, rfl, (Option.some.inj h).symm⟩
theorem near_ne {T : List (List Int)} {ks : List Nat} {c : Nat} {r : Int} (hn : ks.Nodup) (hc : c ∈ ks) (hf : fits T ks c = true) (hd : (T.getD c []).Nodup) (hr : r ∈ T.getD c []) : near T ks c r ≠ [] := by
  have h1 := of_decide_eq_true (List.all_eq_true.mp hf r hr)
  have e := ((List.perm_cons_erase hc).map fun c => (T.getD c []).count r).sum_nat
  rw [List.map_cons, List.sum_cons, hd.count, if_pos hr] at e
  have h1 : 1 < (ks.map fun c => (T.getD c []).count r).sum := h1
  intro z
  have h0 : ((ks.erase c).map fun c => (T.getD c []).count r).sum = 0 := by
    refine List.sum_eq_zero_iff_forall_eq_nat.mpr fun x hx => ?_
    obtain ⟨o, ho, rfl⟩ := List.mem_map.mp hx
    refine List.count_eq_zero.mpr fun hm => ?_
    have hoc : o ≠ c := fun q => by
      rw [q] at ho
      exact (List.Nodup.mem_erase_iff hn).mp ho |>.1 rfl
    have : o ∈ near T ks c r := List.mem_filter.mpr ⟨List.mem_of_mem_erase ho, by rw [decide_eq_true hoc, decide_eq_true hm]; rfl⟩
    rw [z] at this
    cases this
  omega
/-! ### lists of pairs of an int and a tuple of ints -/
inductive PrT (H : Hp) : List V → List (Nat × List Nat) → Prop
  | nil : PrT H [] []
  | cons {t pt : Addr} {c : Nat} {ms : List Nat} {rs : List V} {ds : List (Nat × List Nat)} : H t = some (.tup [.int (c : Int), .ref pt]) → H pt = some (.tup (ms.map nV)) → PrT H rs ds → PrT H (.ref t :: rs) ((c, ms) :: ds)
theorem PrT.mono {H H' : Hp} {rs : List V} {ds : List (Nat × List Nat)} (h : PrT H rs ds) (S : Same H H') : PrT H' rs ds := by
  induction h with
  | nil => exact .nil
  | cons a b _ ih => exact .cons (S _ _ a) (S _ _ b) ih
theorem PrT.off {H : Hp} {rs : List V} {ds : List (Nat × List Nat)} {D : Addr} {xs : List V} {o : HO} (h : PrT H rs ds) (hD : H D = some (.lst xs)) : PrT (upd H D o) rs ds := by
  induction h with
  | nil => exact .nil
  | cons a b _ ih => exact .cons (by rw [upd_ne (ne_of a hD (by intro z; cases z))]; exact a) (by rw [upd_ne (ne_of b hD (by intro z; cases z))]; exact b) ih
theorem PrT.snoc {H : Hp} {rs : List V} {ds : List (Nat × List Nat)} {t pt : Addr} {c : Nat} {ms : List Nat} (h : PrT H rs ds) (a : H t = some (.tup [.int (c : Int), .ref pt])) (b : H pt = some (.tup (ms.map nV))) : PrT H (rs ++ [.ref t]) (ds ++ [(c, ms)]) := by
  induction h with
  | nil => exact .cons a b .nil
  | cons a' b' _ ih => exact .cons a' b' ih
theorem PrT.len {H : Hp} {rs : List V} {ds : List (Nat × List Nat)} (h : PrT H rs ds) : rs.length = ds.length := by
  induction h with
  | nil => rfl
  | cons _ _ _ ih => simp [ih]
def prD (d : Nat × List Nat) : PyData := .tuple [.int (d.1 : Int), .tuple ((d.2.map fun n : Nat => (n : Int)).map PyData.int)]
theorem PrT.dp {K : PySem.W.Frag} {H : Hp} {rs : List V} {ds : List (Nat × List Nat)} (h : PrT H rs ds) : DpAll K H rs (ds.map prD) := by
  induction h with
  | nil => exact .nil
  | cons a b _ ih =>
    refine .cons (.tup (SqT.of a) (.cons (.int _) (.cons (.tup (SqT.of b) ?_) .nil))) ih
    rw [nV_ints]
    exact ints_dp _
theorem int_can : ∀ ns : List Int, PyData.canLayAll0 (ns.map PyData.int) = true
  | [] => rfl
  | n :: r => by
    show (PyData.canLay0 _ && PyData.canLayAll0 (r.map PyData.int)) = true
    rw [int_can r]
    rfl
theorem int_depth : ∀ ns : List Int, PyData.depthAll (ns.map PyData.int) = 0
  | [] => rfl
  | n :: r => by
    show max 0 (PyData.depthAll (r.map PyData.int)) = 0
    rw [int_depth r]
    rfl
theorem prD_can : ∀ ds : List (Nat × List Nat), PyData.canLayAll0 (ds.map prD) = true
  | [] => rfl
  | d :: r => by
    show (PyData.canLay0 (prD d) && PyData.canLayAll0 (r.map prD)) = true
    rw [prD_can r, Bool.and_true]
    show (true && (PyData.canLayAll0 ((d.2.map fun n : Nat => (n : Int)).map PyData.int) && true)) = true
    rw [int_can]
    rfl
theorem prD_depth : ∀ ds : List (Nat × List Nat), PyData.depthAll (ds.map prD) ≤ 2
  | [] => by decide
  | d :: r => by
    have ih := prD_depth r
    have e := int_depth (d.2.map fun n : Nat => (n : Int))
    show max (max 0 (max (PyData.depthAll ((d.2.map fun n : Nat => (n : Int)).map PyData.int) + 1) 0) + 1) (PyData.depthAll (r.map prD)) ≤ 2
    omega
theorem prD_shaped (ds : List (Nat × List Nat)) : SeqAt.shaped (.list (ds.map prD)) = true := by
  show (PyData.canLayAll0 (ds.map prD) && decide (PyData.depthAll (ds.map prD) + 1 ≤ 64)) = true
  rw [prD_can, decide_eq_true (by have := prD_depth ds; omega)]
  rfl
theorem prD_refl : ∀ ds : List (Nat × List Nat), PyData.eqvAll (ds.map prD) (ds.map prD) = true
  | [] => rfl
  | d :: r => by
    have e : PyData.eqvAll ((d.2.map fun n : Nat => (n : Int)).map PyData.int) ((d.2.map fun n : Nat => (n : Int)).map PyData.int) = true := by rw [PySem.W.ked_eqvAll, decide_eq_true rfl]
    have ih := prD_refl r
    simp [prD, PyData.eqvAll, PyData.eqv, ih] at e ⊢
    exact e
section
variable {P : Program} {w : World} {K : PySem.W.Frag} {mg : Str → Option Value} {base : Heap}
/-- the greatest closed set, by its properties -/
structure Great (T : List (List Int)) (n : Nat) (ks : List Nat) : Prop where
  pw : ks.Pairwise (· < ·)
  lt : ∀ x ∈ ks, x < n
  cl : ClosedS T ks
  all : ∀ M, ClosedS T M → M.Nodup → (∀ x ∈ M, x < n) → ∀ x ∈ M, x ∈ ks
theorem great_of {T : List (List Int)} {n : Nat} {ks : List Nat} (h : Left T (List.range n) ks) (e : stepC T ks = ks) : Great T n ks :=
  ⟨List.pairwise_lt_range.sublist h.sub, fun x hx => List.mem_range.mp (h.sub.subset hx), step_closed e, fun M hc hn hl => h.all M hc hn fun x hx => List.mem_range.mpr (hl x hx)⟩
def tabOf (gs : List Int) (m : Nat) (bs : List Int) : List (List Int) := bs.map (resid gs m)
theorem tab_rows {gs : List Int} {m : Nat} {bs : List Int} (h : m ≤ 20) : ∀ r ∈ tabOf gs m bs, r.length ≤ 20 := fun r hr => by
  obtain ⟨s, _, rfl⟩ := List.mem_map.mp hr
  rw [resid_len]
  exact h
def blkOf (T : List (List Int)) (ks : List Nat) : List (Nat × List Nat) := ks.map fun c => (c, mates T ks c)
def spBlk (K : PySem.W.Frag) (C : Addr) : Sp := fun vs H Q _ => ∃ (p g t o b : Addr) (gs : List Int) (m : Nat) (bs : List Int), vs = [.ref p, .ref b] ∧ RuleAt C H p g t o gs (.rep m) ∧ H b = some (.lst (bs.map V.int)) ∧ 1 ≤ bs.length ∧ bs.length ≤ 40 ∧
  ∀ ks q rs H', H q = none → Same H H' → Great (tabOf gs m bs) bs.length ks → H' q = some (.lst rs) → PrT H' rs (blkOf (tabOf gs m bs) ks) → Q (.ref q) H'
def blN : List Str := ["rule", "starts", "table", "clients", "client"]
theorem scBlk : FnScope blN ["rule", "starts"] (defScope s_blocked_clients) := ⟨rfl, rfl, rfl, by decide +kernel, rfl, by decide +kernel, by decide +kernel⟩
theorem ok_blk {f C fC fT fG fP : Addr} {fd fdC fdT fdG fdP : FuncData} (F : Fun K "blocked_clients" "blocked_clients" s_blocked_clients f fd) (T : Txt K mg C) (GC : FnOk P w K mg base CX0 3 fC fdC ["rule", "starts"] (spCkL C)) (bC : Binds K fdC ["rule", "starts"] []) (mC : mg "_check_clients" = some (.ref fC)) (kC : PySem.W.keepIn K (.ref fC) = true)
    (GT : FnOk P w K mg base CX0 5 fT fdT ["rule", "starts"] (spTab C)) (bT : Binds K fdT ["rule", "starts"] []) (mT : mg "_residue_table" = some (.ref fT)) (kT : PySem.W.keepIn K (.ref fT) = true)
    (GG : FnOk P w K mg base CX0 1 fG fdG ["table", "clients"] spGC) (bG : Binds K fdG ["table", "clients"] []) (mG : mg "_greatest_closed" = some (.ref fG)) (kG : PySem.W.keepIn K (.ref fG) = true)
    (GP : FnOk P w K mg base CX0 1 fP fdP ["table", "client", "clients"] spPart) (bP : Binds K fdP ["table", "client", "clients"] []) (mP : mg "_partners" = some (.ref fP)) (kP : PySem.W.keepIn K (.ref fP) = true) :
    FnOk P w K mg base CX0 6 f fd ["rule", "starts"] (spBlk K C) := by
  refine F.ok scBlk (fun vs H Q E h => ?_) (fun cdv A outer s H vs Q E hr h => ?_)
  · obtain ⟨p, g, t, o, b, gs, m, bs, rfl, _⟩ := h
    rfl
  · obtain ⟨p, g, t, o, b, gs, m, bs, rfl, R, hb, h1, h40, k⟩ := h
    have hr1 := hr.mono (show 1 ≤ 5 by decide)
    have hm1 : 1 ≤ m := R.okT.1
    have hm2 : m ≤ gs.length := R.okT.2
    have hg20 := R.okG.1
    refine ⟨_, (pss_cons (ps_expr (pe_call GC (hr.mono (by decide)) rfl mC kC bC .nil pass0 (pa_cons (pv 0) (pa_cons (pv 1) pa_nil)))) (pss_cons (ps_set (i := 2) scBlk.nd rfl (Or.inr rfl) (pe_call GT hr rfl mT kT bT .nil pass0 (pa_cons (pv 0) (pa_cons (pv 1) pa_nil)))) (pss_cons (ps_set (i := 3) scBlk.nd rfl (Or.inr rfl) (pe_call GG hr1 rfl mG kG bG .nil pass0 (pa_cons (pv 2) (pa_cons (pe_listRg rfl (by rfl) T.list (prg_1 (by rfl) T.range (pe_callB call_len_seq (by rfl) T.len (by decide +kernel) (pa_cons (pv 1) pa_nil)))) pa_nil)))) (pss_one (ps_ret (pe_lc (own := [("client", 4)]) (g := gName 4) (tt := tYes) rfl scBlk.nd (pi_list (pv 3)) (blkOk_by (own := [("client", 4)]) (N := blN) (sc := (defScope s_blocked_clients)) (by decide +kernel)) (fun _ _ _ _ _ => (pg_name (i := 4) scBlk.nd rfl (Or.inl rfl))) (fun _ _ _ _ _ => pts_nil) (fun _ _ _ _ _ => (pe_tup (pa_cons (pv 4) (pa_cons (pe_call GP hr1 rfl mP kP bP .nil pass0 (pa_cons (pv 2) (pa_cons (pv 4) (pa_cons (pv 3) pa_nil)))) pa_nil)))))))))), ?_⟩
    refine ⟨_, rfl, _, rfl, p, g, t, o, b, gs, m, bs, rfl, R, hb, h1, h40, fun H1 S1 => ?_⟩
    refine ⟨_, rfl, _, rfl, p, g, t, o, b, gs, m, bs, rfl, R.mono S1, S1 _ _ hb, by omega, fun tb ts H2 htb S2 htb2 hL => ?_⟩
    have S12 := S1.trans S2
    have hb2 := S12 _ _ hb
    refine ⟨_, rfl, _, rfl, b, _, rfl, .inl (SqL.of hb2), _, rfl, ?_⟩
    refine ⟨RgOk.of_le (by omega) (by rw [List.length_map]; omega) (by omega) (by omega), fun l hl => ?_⟩
    have S3 := same_new (o := .lst (rgV 0 ((bs.map V.int).length : Int))) hl
    have er : rgV 0 ((bs.map V.int).length : Int) = (List.range bs.length).map nV := by
      unfold rgV
      rw [List.length_map, Int.sub_zero, Int.toNat_natCast]
      refine List.map_congr_left fun i _ => ?_
      show V.int (0 + (i : Int)) = V.int (i : Int)
      rw [Int.zero_add]
    have hl3 := upd_same (H := H2) (a := l) (o := .lst (rgV 0 ((bs.map V.int).length : Int)))
    rw [er] at hl3 S3 ⊢
    have hTl : (tabOf gs m bs).length = bs.length := by unfold tabOf; rw [List.length_map]
    refine ⟨tb, l, ts, tabOf gs m bs, List.range bs.length, rfl, S3 _ _ htb2, LsAt.mono hL S3, hl3, fun x hx => by rw [hTl]; exact List.mem_range.mp hx, by rw [List.length_range]; exact h40, tab_rows (by omega), fun ks q H4 hq S4 hleft hst hq4 => ?_⟩
    have G := great_of hleft hst
    have S34 := S3.trans S4
    have S14 := S12.trans S34
    have hkl : ks.length ≤ 40 := by have := hleft.sub.length_le; rw [List.length_range] at this; omega
    refine ⟨_, rfl, q, rfl, ⟨_, SqL.of hq4⟩, fun D hD => lc_list (a := q) (xs := ks.map nV) (fun i H' => Same H4 H' ∧ ∃ rs, H' D = some (.lst rs) ∧ PrT H' rs ((blkOf (tabOf gs m bs) ks).take i)) ⟨same_app hD (fun _ _ e => e), [], upd_same, .nil⟩ (fun i H' _ z => z.1.seq (SqL.of hq4)) (fun i x H5 hx z => ?_) (fun H5 z => ?_)⟩
    · obtain ⟨S5, rs, hrs, hP⟩ := z
      obtain ⟨c, hc, rfl⟩ := nmap_of hx
      have hcm := mem_get hc
      have hct : c < (tabOf gs m bs).length := by rw [hTl]; exact G.lt c hcm
      have S45 := S34.trans S5
      have eT := List.getElem?_eq_getElem hct
      obtain ⟨s0, _, es⟩ := tab_get (gs := gs) (m := m) (bs := bs) eT
      have hrow : ((tabOf gs m bs).getD c []).Nodup := by
        rw [List.getD_eq_getElem?_getD, eT]
        show ((tabOf gs m bs)[c]).Nodup
        rw [es]
        exact resid_nodup R.okG hm1 hm2 s0
      have hnd : ks.Nodup := G.pw.imp fun h => by omega
      refine ⟨rfl, yes_t (iteT ?_)⟩
      refine ⟨_, rfl, _, rfl, _, rfl, _, rfl, tb, q, ts, tabOf gs m bs, ks, c, rfl, S45 _ _ htb2, LsAt.mono hL S45, S5 _ _ hq4, fun x hx => by rw [hTl]; exact G.lt x hx, hct, G.pw, hkl, tab_rows (by omega), fun r hr => near_ne hnd hcm (G.cl c hcm) hrow hr, fun pt H6 hpt S6 hpt6 => ?_⟩
      refine ⟨by show 2 ≤ sizeLine; decide, fun t2 ht2 => ?_⟩
      have S7 := S6.trans (same_new (o := .tup [V.int (c : Int), .ref pt]) ht2)
      have hD7 := S7 _ _ hrs
      have hlen := hP.len
      refine ⟨rs, hD7, small_line (by rw [hlen, List.length_take]; unfold blkOf; rw [List.length_map]; omega), same_app hD (S5.trans S7), _, upd_same, ?_⟩
      have hgi : (blkOf (tabOf gs m bs) ks)[i]? = some (c, mates (tabOf gs m bs) ks c) := by
        unfold blkOf
        rw [List.getElem?_map, hc]
        rfl
      rw [List.take_add_one, hgi]
      exact ((hP.mono S7).snoc upd_same (same_new ht2 _ _ hpt6)).off hD7
    · obtain ⟨S5, rs, hrs, hP⟩ := z
      rw [List.length_map, show ks.length = (blkOf (tabOf gs m bs) ks).length by unfold blkOf; rw [List.length_map], List.take_length] at hP
      exact k ks D rs H5 (S14.free hD) (S14.trans S5) G hrs hP
end
end RS
namespace RS
open PySem L2
section
variable {P : Program} {w : World} {K : PySem.W.Frag} {mg : Str → Option Value} {base : Heap}
theorem ones : ∀ l : List Nat, (l.map fun _ => 1).sum = l.length
  | [] => rfl
  | x :: l => by rw [List.map_cons, List.sum_cons, ones l, List.length_cons, Nat.add_comm]
theorem left_eq {T : List (List Int)} {M ks : List Nat} (hl : Left T M ks) (he : stepC T ks = ks) (hn : M.Nodup) : (ks = M ↔ ClosedS T M) := by
  constructor
  · intro e
    rw [← e]
    exact step_closed he
  · intro c
    have hs := hl.all M c hn fun x h => h
    refine hl.sub.eq_of_length ?_
    have h1 := hl.sub.length_le
    have h2 : M.length ≤ ks.length := by
      have := sum_sub (fun _ => 1) hn hs
      rwa [ones, ones] at this
    omega
def spIsC (C : Addr) : Sp := fun vs H Q _ => ∃ (p g t o b v : Addr) (gs : List Int) (m : Nat) (bs : List Int) (M : List Nat), vs = [.ref p, .ref b, .ref v] ∧ RuleAt C H p g t o gs (.rep m) ∧ H b = some (.lst (bs.map V.int)) ∧ 1 ≤ bs.length ∧ bs.length ≤ 40 ∧ H v = some (.lst (M.map nV)) ∧ M.Pairwise (· < ·) ∧ (∀ x ∈ M, x < bs.length) ∧ M.length ≤ 40 ∧
  ∀ r H', (r = true ↔ ClosedS (tabOf gs m bs) M) → Same H H' → Q (.bl r) H'
theorem scIsC : FnScope ["rule", "starts", "value"] ["rule", "starts", "value"] (defScope s_is_closed) := ⟨rfl, rfl, rfl, by decide +kernel, rfl, by decide +kernel, by decide +kernel⟩
theorem ok_isC {f C fC fT fG fA : Addr} {fd fdC fdT fdG fdA : FuncData} (F : Fun K "is_closed" "is_closed" s_is_closed f fd) (T : Txt K mg C) (GC : FnOk P w K mg base CX0 3 fC fdC ["rule", "starts"] (spCkL C)) (bC : Binds K fdC ["rule", "starts"] []) (mC : mg "_check_clients" = some (.ref fC)) (kC : PySem.W.keepIn K (.ref fC) = true)
    (GT : FnOk P w K mg base CX0 5 fT fdT ["rule", "starts"] (spTab C)) (bT : Binds K fdT ["rule", "starts"] []) (mT : mg "_residue_table" = some (.ref fT)) (kT : PySem.W.keepIn K (.ref fT) = true)
    (GG : FnOk P w K mg base CX0 1 fG fdG ["table", "clients"] spGC) (bG : Binds K fdG ["table", "clients"] []) (mG : mg "_greatest_closed" = some (.ref fG)) (kG : PySem.W.keepIn K (.ref fG) = true)
    (GA : FnOk P w K mg base CX0 2 fA fdA ["value", "many"] spAsc) (bA : Binds K fdA ["value", "many"] []) (mA : mg "_are_ascending" = some (.ref fA)) (kA : PySem.W.keepIn K (.ref fA) = true) :
    FnOk P w K mg base CX0 6 f fd ["rule", "starts", "value"] (spIsC C) := by
  refine F.ok scIsC (fun vs H Q E h => ?_) (fun cdv A outer s H vs Q E hr h => ?_)
  · obtain ⟨p, g, t, o, b, v, gs, m, bs, M, rfl, _⟩ := h
    rfl
  · obtain ⟨p, g, t, o, b, v, gs, m, bs, M, rfl, R, hb, h1, h40, hv, hpw, hlt, hM, k⟩ := h
    have hr1 := hr.mono (show 1 ≤ 5 by decide)
    have hm2 : m ≤ gs.length := R.okT.2
    have hg20 := R.okG.1
    have hn : M.Nodup := hpw.imp fun h => by omega
    refine ⟨_, (pss_cons (ps_expr (pe_call GC (hr.mono (by decide)) rfl mC kC bC .nil pass0 (pa_cons (pv 0) (pa_cons (pv 1) pa_nil)))) (pss_cons (ps_if (pt_not (pt_val (pe_call GA (hr.mono (by decide)) rfl mA kA bA .nil pass0 (pa_cons (pv 2) (pa_cons (pe_callB call_len_seq (by rfl) T.len (by decide +kernel) (pa_cons (pv 1) pa_nil)) pa_nil))))) (pss_one (ps_ret pe_bl)) pss_nil) (pss_one (ps_ret (pe_cmpR (op_eqD hr.units) (pe_call GG hr1 rfl mG kG bG .nil pass0 (pa_cons (pe_call GT hr rfl mT kT bT .nil pass0 (pa_cons (pv 0) (pa_cons (pv 1) pa_nil))) (pa_cons (pv 2) pa_nil))) (pv 2) (nomark _)))))), ?_⟩
    refine ⟨_, rfl, _, rfl, p, g, t, o, b, gs, m, bs, rfl, R, hb, h1, h40, fun H1 S1 => ?_⟩
    refine ⟨_, rfl, _, rfl, b, _, rfl, .inl (SqL.of (S1 _ _ hb)), v, M, bs.length, by rw [List.length_map]; rfl, S1 _ _ hv, hpw, hlt, hM, fun H2 S2 => ⟨true, rfl, iteF ?_⟩⟩
    have S12 := S1.trans S2
    refine ⟨_, rfl, _, rfl, p, g, t, o, b, gs, m, bs, rfl, R.mono S12, S12 _ _ hb, by omega, fun tb ts H3 htb S3 htb3 hL => ?_⟩
    have S13 := S12.trans S3
    have hTl : (tabOf gs m bs).length = bs.length := by unfold tabOf; rw [List.length_map]
    refine ⟨_, rfl, tb, v, ts, tabOf gs m bs, M, rfl, htb3, hL, S13 _ _ hv, fun x hx => by rw [hTl]; exact hlt x hx, hM, tab_rows (by omega), fun ks q H4 hq S4 hleft hst hq4 => ?_⟩
    have S14 := S13.trans S4
    refine ⟨_, rfl, _, _, list_dp (SqL.of (by rw [hq4, nV_ints])), list_dp (SqL.of (by rw [S14 _ _ hv, nV_ints])), PySem.W.ke_shaped_ints _, PySem.W.ke_shaped_ints _, ?_⟩
    rw [list_eqv]
    refine k _ H4 ?_ S14
    rw [decide_eq_true_iff, ← left_eq hleft hst hn]
    constructor
    · intro e
      exact List.map_inj_right (fun a b h => by omega) |>.mp e
    · intro e
      rw [e]
end
end RS
namespace RS
open PySem L2
/-! ### slices -/
theorem cut_to (xs : List V) (n : Nat) : cutV xs none (some (n : Int)) = xs.take n := by
  unfold cutV
  rw [HT.sIx_none, HT.sIx_nat, List.drop_zero, Nat.sub_zero]
  by_cases h : n ≤ xs.length
  · rw [Nat.min_eq_left h]
  · rw [Nat.min_eq_right (by omega), List.take_length, List.take_of_length_le (by omega)]
theorem cut_mid (xs : List V) (i n : Nat) : cutV xs (some (i : Int)) (some (n : Int)) = (xs.drop i).take (n - i) := by
  unfold cutV
  rw [HT.sIx_nat, HT.sIx_nat]
  by_cases h : i ≤ xs.length
  · rw [Nat.min_eq_left h]
    by_cases h2 : n ≤ xs.length
    · rw [Nat.min_eq_left h2]
    · rw [Nat.min_eq_right (by omega), List.take_of_length_le (by rw [List.length_drop]; exact Nat.le_refl _), List.take_of_length_le (by rw [List.length_drop]; omega)]
  · rw [show min i xs.length = xs.length by omega, List.drop_of_length_le (Nat.le_refl _), List.drop_of_length_le (show xs.length ≤ i by omega)]
    simp
theorem cut_back (xs : List V) {m : Nat} (h0 : 0 < m) (h : m ≤ xs.length) : cutV xs (some (-(m : Int))) none = xs.drop (xs.length - m) := by
  have e : HT.sIx xs.length 0 (some (-(m : Int))) = xs.length - m := by
    show (if -(m : Int) < 0 then (-(m : Int) + (xs.length : Int)).toNat else min (-(m : Int)).toNat xs.length) = _
    rw [if_pos (by omega)]
    omega
  unfold cutV
  rw [e, HT.sIx_none, List.take_of_length_le (by rw [List.length_drop]; exact Nat.le_refl _)]
theorem cut_from (xs : List V) {i : Nat} (h : i ≤ xs.length) : cutV xs (some (i : Int)) none = xs.drop i := by
  unfold cutV
  rw [HT.sIx_nat, HT.sIx_none, Nat.min_eq_left h, List.take_of_length_le (by rw [List.length_drop]; exact Nat.le_refl _)]
end RS
namespace RS
open PySem L2
section
variable {P : Program} {w : World} {K : PySem.W.Frag} {mg : Str → Option Value} {base : Heap}
/-! ### the law's rule that repeats -/
def spRep : Sp := fun vs H Q _ => ∃ (a : Addr) (b : Nat), vs = [.ref a] ∧ Src H a b ∧ b ≤ 50000 ∧
  ∀ (u g : Addr) (gs : List Int) (m : Nat) (H' : Hp), H g = none → H' u = some (.tup [.ref g, .int (m : Int)]) → H' g = some (.lst (gs.map V.int)) → GapsOk gs → 1 ≤ m → m ≤ gs.length → Kx a H H' → Src H' a (b + 30) → Q (.ref u) H'
def reN : List Str := ["_law_source", "_law_most", "_law_gaps", "_law_gap"]
theorem scRep : FnScope reN ["_law_source"] (defScope s_law_repeating) := ⟨rfl, rfl, rfl, by decide +kernel, rfl, by decide +kernel, by decide +kernel⟩
theorem ok_rep {f C fN fO : Addr} {fd fdN fdO : FuncData} (F : Fun K "_law_repeating" "_law_repeating" s_law_repeating f fd) (T : Txt K mg C) (GN : FnOk P w K mg base CX0 1 fN fdN ["_law_source", "_law_bound"] spNext) (bN : Binds K fdN ["_law_source", "_law_bound"] []) (mN : mg "_law_draw" = some (.ref fN)) (kN : PySem.W.keepIn K (.ref fN) = true)
    (GO : FnOk P w K mg base CX0 2 fO fdO ["_law_source", "_law_options"] spOne) (bO : Binds K fdO ["_law_source", "_law_options"] []) (mO : mg "_law_choice" = some (.ref fO)) (kO : PySem.W.keepIn K (.ref fO) = true) : FnOk P w K mg base CX0 3 f fd ["_law_source"] spRep := by
  refine F.ok scRep (fun vs H Q E h => ?_) (fun cdv A outer s H vs Q E hr h => ?_)
  · obtain ⟨a, b, rfl, _⟩ := h
    rfl
  · obtain ⟨a, b, rfl, S, hb, k⟩ := h
    have hr1 := hr.mono (show 1 ≤ 2 by decide)
    refine ⟨_, (pss_cons (ps_set (i := 1) scRep.nd rfl (Or.inr rfl) (pe_call GO hr rfl mO kO bO .nil pass0 (pa_cons (pv 0) (pa_cons (pe_lst (pa_cons pe_int (pa_cons pe_int (pa_cons pe_int (pa_cons pe_int (pa_cons (pe_op op_pow pe_int pe_int) pa_nil)))))) pa_nil)))) (pss_cons (ps_setLc (i := 2) (own := [("_law_gap", 3)]) (g := gName 3) (tt := tYes) (by rfl) scRep.nd rfl rfl (sw_true rfl rfl rfl (by decide +kernel)) (pi_range1 rfl T.range (pa_cons (pe_op op_add pe_int (pe_call GN hr1 rfl mN kN bN .nil pass0 (pa_cons (pv 0) (pa_cons (pe_call GO hr rfl mO kO bO .nil pass0 (pa_cons (pv 0) (pa_cons (pe_lst (pa_cons pe_int (pa_cons pe_int (pa_cons pe_int pa_nil)))) pa_nil))) pa_nil)))) pa_nil)) (blkOk_by (own := [("_law_gap", 3)]) (N := reN) (sc := (defScope s_law_repeating)) (by decide +kernel)) (fun _ _ _ _ _ => (pg_name (i := 3) scRep.nd rfl (Or.inl rfl))) (fun _ _ _ _ _ => pts_nil) (fun _ _ _ _ _ => (pe_op op_add pe_int (pe_call GN hr1 rfl mN kN bN .nil pass0 (pa_cons (pv 0) (pa_cons (pv 1) pa_nil)))))) (pss_one (ps_ret (pe_tup (pa_cons (pv 2) (pa_cons (pe_op op_add pe_int (pe_call GN hr1 rfl mN kN bN .nil pass0 (pa_cons (pv 0) (pa_cons (pe_callB call_len_seq (by rfl) T.len (by decide +kernel) (pa_cons (pv 2) pa_nil)) pa_nil)))) pa_nil))))))), ?_⟩
    -- most
    refine ⟨_, rfl, _, _, rfl, rfl, ⟨by decide, by decide, by decide⟩, (by show 5 ≤ sizeLine; decide), fun q1 hq1 => ?_⟩
    have S1 : Same H (upd H q1 (.lst [.int 2, .int 3, .int 6, .int 30, .int ((10 : Int) ^ (12 : Int).toNat)])) := same_new hq1
    refine ⟨a, q1, _, b, rfl, S.mono S1, by omega, (S.new hq1).symm, upd_same, by show 0 < 5; decide, by show 5 < 1000; decide, fun x H2 hx kx2 R2 => ?_⟩
    obtain ⟨wd, rfl, wd1, wd2⟩ : ∃ wd : Int, x = .int wd ∧ 1 ≤ wd ∧ wd ≤ 1000000000000 := by
      simp only [List.mem_cons, List.not_mem_nil, or_false] at hx
      rcases hx with rfl | rfl | rfl | rfl | rfl <;> exact ⟨_, rfl, by decide, by decide⟩
    have kx2 : Kx a H H2 := (Kx.of S1).trans kx2
    -- how many
    refine ⟨_, rfl, _, rfl, (by show 3 ≤ sizeLine; decide), fun q2 hq2 => ?_⟩
    refine ⟨a, q2, _, b + 1, rfl, R2.mono (same_new hq2), by omega, (R2.new hq2).symm, upd_same, by show 0 < 3; decide, by show 3 < 1000; decide, fun x H3 hx kx3 R3 => ?_⟩
    obtain ⟨ct, rfl, ct1, ct2⟩ : ∃ ct : Int, x = .int ct ∧ 1 ≤ ct ∧ ct ≤ 20 := by
      simp only [List.mem_cons, List.not_mem_nil, or_false] at hx
      rcases hx with rfl | rfl | rfl <;> exact ⟨_, rfl, by decide, by decide⟩
    have kx3 : Kx a H H3 := kx2.trans ((Kx.of (same_new hq2)).trans kx3)
    refine ⟨a, ct, b + 2, rfl, R3, by omega, ct1, by omega, fun cn H4 cn0 cn1 kx4 R4 => ?_⟩
    have kx4 : Kx a H H4 := kx3.trans kx4
    -- the gaps
    refine ⟨_, _, rfl, rfl, 1 + cn, rfl, by omega, by omega, fun D hD => ?_⟩
    have naD : a ≠ D := R4.new hD
    refine lc_range (lo := 0) (n := (1 + cn).toNat) (fun i H' => ∃ gs : List Int, gs.length = i ∧ (∀ g ∈ gs, 1 ≤ g ∧ g ≤ 1000000000000) ∧ H' D = some (.lst (gs.map V.int)) ∧ Kx a H4 H' ∧ Src H' a (b + 3 + i)) ⟨[], rfl, fun g hg => (nomatch hg), upd_same, Kx.of (same_new hD), R4.mono (same_new hD)⟩ (fun i H' hi p => ?_) (fun H' p => ?_)
    · obtain ⟨gs, hl, hg, hd, kx, R⟩ := p
      refine ⟨rfl, ?_⟩
      refine yes_t (iteT ?_)
      refine ⟨_, rfl, _, rfl, a, wd, b + 3 + i, rfl, R, by omega, wd1, by omega, fun r H5 r0 r1 kx5 R5 => ⟨_, _, rfl, rfl, gs.map V.int, kx5 D _ naD.symm hd, ?_, gs ++ [1 + r], ?_, ?_, ?_, ?_, ?_⟩⟩
      · rw [List.length_map]
        exact small1000 (by omega)
      · rw [List.length_append, hl]
        rfl
      · intro g hm
        rcases List.mem_append.mp hm with hm | hm
        · exact hg g hm
        · obtain rfl := List.mem_singleton.mp hm
          omega
      · rw [upd_same, List.map_append]
        rfl
      · intro c u n e
        rw [upd_ne (ne_of_none e hD)]
        exact kx5 c u n (kx c u n e)
      · obtain ⟨s0, s1, s2, h1, h2⟩ := R5.ex
        exact ⟨s0, s1, s2, by rw [upd_ne naD]; exact h1, h2⟩
    obtain ⟨gs, hl, hg, hd, kx, R⟩ := p
    have kx5 : Kx a H H' := kx4.trans kx
    have hDH : H D = none := kx4.free naD.symm hD
    have okG : GapsOk gs := ⟨by omega, hg⟩
    refine ⟨_, rfl, _, rfl, _, rfl, D, _, rfl, .inl (SqL.of hd), a, (gs.length : Int), b + 3 + (1 + cn).toNat, ?_, R, by omega, by omega, by omega, fun r H6 r0 r1 kx6 R6 => ?_⟩
    · rw [List.length_map]
      rfl
    refine ⟨_, _, rfl, rfl, (by show 2 ≤ sizeLine; decide), fun u hu => ?_⟩
    obtain ⟨n, rfl⟩ := Int.eq_ofNat_of_zero_le r0
    have hd6 := kx6 D _ naD.symm hd
    have Su := same_new (o := .tup [V.ref D, .int (1 + (n : Int))]) hu
    refine k u D gs (1 + n) _ hDH ?_ (Su _ _ hd6) okG (by omega) (by omega) ((kx5.trans kx6).trans (Kx.of Su)) ((R6.mono Su).le (by omega))
    rw [upd_same, Int.natCast_add]
    rfl
/-! ### the law's residues -/
theorem sum_take (gs : List Int) (k : Nat) : (gs.take k).sum = pre gs k := rfl
theorem sum_drop {gs : List Int} {k : Nat} : (gs.drop k).sum = gs.sum - pre gs k := by
  have h : (gs.take k ++ gs.drop k).sum = gs.sum := by rw [List.take_append_drop]
  rw [List.sum_append] at h
  unfold pre
  omega
theorem pre_all (gs : List Int) : pre gs gs.length = gs.sum := by unfold pre; rw [List.take_length]
def spLRes : Sp := fun vs H Q _ => ∃ (g : Addr) (gs : List Int) (m : Nat) (s : Int), vs = [.ref g, .int (m : Int), .int s] ∧ H g = some (.lst (gs.map V.int)) ∧ GapsOk gs ∧ 1 ≤ m ∧ m ≤ gs.length ∧
  ∀ u r H', H r = none → Same H H' → H' u = some (.tup [.int (per gs m), .ref r]) → H' r = some (.lst ((resid gs m s).map V.int)) → Q (.ref u) H'
def lrN : List Str := ["_law_gaps", "_law_count", "_law_start", "_law_first", "_law_offset", "_law_period", "_law_result", "_law_gap"]
theorem scLRes : FnScope lrN ["_law_gaps", "_law_count", "_law_start"] (defScope s_law_residues) := ⟨rfl, rfl, rfl, by decide +kernel, rfl, by decide +kernel, by decide +kernel⟩
theorem ok_lres {f C : Addr} {fd : FuncData} (F : Fun K "_law_residues" "_law_residues" s_law_residues f fd) (T : Txt K mg C) : FnOk P w K mg base CX0 1 f fd ["_law_gaps", "_law_count", "_law_start"] spLRes := by
  refine F.ok scLRes (fun vs H Q E h => ?_) (fun cdv A outer s H vs Q E hr h => ?_)
  · obtain ⟨g, gs, m, s, rfl, _⟩ := h
    rfl
  · obtain ⟨g, gs, m, st, rfl, hg, okG, h1, h2, k⟩ := h
    have hg20 := okG.1
    have hp := per_bd okG h1 h2
    refine ⟨_, (pss_cons (ps_set (i := 3) scLRes.nd rfl (Or.inl rfl) (pe_op op_sub (pe_callB call_len_seq (by rfl) T.len (by decide +kernel) (pa_cons (pv 0) pa_nil)) (pv 1))) (pss_cons (ps_set (i := 4) scLRes.nd rfl (Or.inl rfl) (pe_callB (cr_sum rfl) (by rfl) T.sum (by decide +kernel) (pa_cons (pe_slice sl_list (pv 0) po_none (po_some (pv 3))) pa_nil))) (pss_cons (ps_set (i := 5) scLRes.nd rfl (Or.inl rfl) (pe_callB (cr_sum rfl) (by rfl) T.sum (by decide +kernel) (pa_cons (pe_slice sl_list (pv 0) (po_some (pv 3)) po_none) pa_nil))) (pss_cons (ps_set (i := 6) scLRes.nd rfl (Or.inl rfl) (pe_lst pa_nil)) (pss_cons (ps_for PassesOwn.never rfl (pi_list (pe_slice sl_list (pv 0) (po_some (pv 3)) po_none)) (pg_name (i := 7) scLRes.nd rfl (Or.inl rfl)) (pss_cons (ps_expr (pe_bm PySem.F.plainAttrs_list PySem.F.slot_list_append PySem.F.type_list_append mt_append (pv 6) (pa_cons (pe_op op_mod (pe_callTy call_int1 (by rfl) T.int (by decide +kernel) (pa_cons (pe_op op_add (pv 2) (pv 4)) pa_nil)) (pv 5)) pa_nil))) (pss_one (ps_set (i := 4) scLRes.nd rfl (Or.inl rfl) (pe_op op_add (pv 4) (pv 7)))))) (pss_one (ps_ret (pe_tup (pa_cons (pv 5) (pa_cons (pv 6) pa_nil)))))))))), ?_⟩
    refine ⟨_, rfl, g, _, rfl, .inl (SqL.of hg), _, rfl, _, _, rfl, rfl, ?_⟩
    have e1 : (((gs.map V.int).length : Nat) : Int) - (m : Int) = ((gs.length - m : Nat) : Int) := by rw [List.length_map]; omega
    dsimp only [gName]
    rw [e1]
    -- the first offset
    refine ⟨_, rfl, _, rfl, _, rfl, g, _, rfl, SqL.of hg, fun l1 hl1 => ?_⟩
    rw [cut_to, ← List.map_take]
    have s1 := same_new (o := .lst ((gs.take (gs.length - m)).map V.int)) hl1
    refine ⟨l1, gs.take (gs.length - m), rfl, SqL.of upd_same, ?_⟩
    rw [sum_take]
    -- the period
    refine ⟨_, rfl, _, rfl, _, rfl, g, _, rfl, SqL.of (s1 _ _ hg), fun l2 hl2 => ?_⟩
    rw [cut_from _ (by rw [List.length_map]; omega), ← List.map_drop]
    have s2 := s1.trans (same_new (o := .lst ((gs.drop (gs.length - m)).map V.int)) hl2)
    refine ⟨l2, gs.drop (gs.length - m), rfl, SqL.of upd_same, ?_⟩
    have ep : (gs.drop (gs.length - m)).sum = per gs m := by rw [sum_drop, ← pre_all]; rfl
    rw [ep]
    refine ⟨by show 0 ≤ sizeLine; decide, fun r hrn => ?_⟩
    have s3 := s2.trans (same_new (o := .lst []) hrn)
    refine ⟨_, rfl, _, rfl, _, rfl, g, _, rfl, SqL.of (s3 _ _ hg), fun l3 hl3 => ?_⟩
    rw [cut_from _ (by rw [List.length_map]; omega), ← List.map_drop]
    have hr0 := same_new (o := .lst ((gs.drop (gs.length - m)).map V.int)) hl3 _ _ (upd_same (o := HO.lst []))
    have s4 := s3.trans (same_new (o := .lst ((gs.drop (gs.length - m)).map V.int)) hl3)
    have hl3' := upd_same (H := upd (upd (upd H l1 (.lst ((gs.take (gs.length - m)).map V.int))) l2 (.lst ((gs.drop (gs.length - m)).map V.int))) r (.lst [])) (a := l3) (o := .lst ((gs.drop (gs.length - m)).map V.int))
    have hHr : H r = none := s2.free hrn
    generalize (upd (upd (upd (upd H l1 (.lst ((gs.take (gs.length - m)).map V.int))) l2 (.lst ((gs.drop (gs.length - m)).map V.int))) r (.lst [])) l3 (.lst ((gs.drop (gs.length - m)).map V.int))) = H4 at s4 hl3' hr0 ⊢
    have nl3 : l3 ≠ r := fun z => by rw [z] at hl3; rw [upd_same] at hl3; cases hl3
    have hdl : (gs.drop (gs.length - m)).length = m := by rw [List.length_drop]; omega
    refine ⟨l3, rfl, ⟨_, SqL.of hl3'⟩, for_list (a := l3) (xs := (gs.drop (gs.length - m)).map V.int) (fun i σ H' => Kx r H4 H' ∧ (∃ v7, σ = [some (.ref g), some (.int (m : Int)), some (.int st), some (.int ((gs.length - m : Nat) : Int)), some (.int (pre gs (gs.length - m + i))), some (.int (per gs m)), some (.ref r), v7]) ∧ H' r = some (.lst (((resid gs m st).take i).map V.int)))
      ⟨Kx.refl _ _, ⟨none, rfl⟩, hr0⟩ (fun i σ H' _ p => SqL.of (p.1 _ _ nl3 hl3')) ?_ ?_⟩
    · rintro i x σ H5 hx ⟨kx, ⟨v7, rfl⟩, hr5⟩
      have hi := (List.getElem?_eq_some_iff.mp hx).1
      rw [List.length_map, hdl] at hi
      obtain ⟨y, hy, rfl⟩ := map_of hx
      rw [List.getElem?_drop] at hy
      refine ⟨_, rfl, .inl ⟨rfl, _, SqL.of hr5⟩, _, rfl, _, rfl, _, _, rfl, rfl, ?_⟩
      refine .inl ⟨_, rfl, ?_⟩
      refine ⟨_, rfl, ?_⟩
      refine ⟨_, _, rfl, rfl, (by show (0 : Int) < per gs m; omega), ?_⟩
      refine ⟨r, _, _, rfl, rfl, hr5, ?_, ?_⟩
      · rw [List.length_map, List.length_take]
        exact small1000 (by rw [resid_len]; omega)
      refine ⟨_, rfl, _, rfl, _, _, rfl, rfl, kx.trans Kx.upd, ⟨some (.int y), ?_⟩, ?_⟩
      · rw [show gs.length - m + (i + 1) = gs.length - m + i + 1 by omega, pre_succ gs hy]
        rfl
      · have e : (resid gs m st)[i]? = some ((st + pre gs (gs.length - m + i)) % per gs m) := by
          unfold resid repOffs
          rw [List.getElem?_map, List.getElem?_map, List.getElem?_range hi]
          rfl
        rw [upd_same, List.take_add_one, e, List.map_append]
        rfl
    · rintro σ H5 ⟨kx, ⟨v7, rfl⟩, hr5⟩
      rw [List.length_map, hdl, List.take_of_length_le (by rw [resid_len]; omega)] at hr5
      refine ⟨_, rfl, _, rfl, (by show 2 ≤ sizeLine; decide), fun u hu => ?_⟩
      have s5 : Same H H5 := fun b o e => kx _ _ (ne_of_none e hHr) (s4 _ _ e)
      exact k u r _ hHr (s5.trans (same_new hu)) upd_same (same_new hu _ _ hr5)
end
end RS
namespace RS
open PySem L2
/-! ### all but two places -/
def Kx2 (a r : Addr) (H H' : Hp) : Prop := ∀ c u, c ≠ a → c ≠ r → H c = some u → H' c = some u
theorem Kx2.refl (a r : Addr) (H : Hp) : Kx2 a r H H := fun _ _ _ _ h => h
theorem Kx2.kx {a r : Addr} {H H1 H2 : Hp} (x : Kx2 a r H H1) (y : Kx a H1 H2) : Kx2 a r H H2 := fun c u n m h => y c u n (x c u n m h)
theorem Kx2.same {a r : Addr} {H H1 H2 : Hp} (x : Kx2 a r H H1) (y : Same H1 H2) : Kx2 a r H H2 := fun c u n m h => y c u (x c u n m h)
theorem Kx2.upd {a r : Addr} {H H1 : Hp} {o : HO} (x : Kx2 a r H H1) : Kx2 a r H (upd H1 r o) := fun c u n m h => by
  rw [upd_ne m]
  exact x c u n m h
theorem Src.off {H : Hp} {a r : Addr} {b : Nat} {o : HO} (h : Src H a b) (n : a ≠ r) : Src (upd H r o) a b := by
  obtain ⟨s0, s1, s2, h1, h2⟩ := h.ex
  exact ⟨s0, s1, s2, by rw [upd_ne n]; exact h1, h2⟩
theorem int_of_mem {xs : List Int} {x : V} (h : x ∈ xs.map V.int) : ∃ i, x = .int i ∧ i ∈ xs := by
  obtain ⟨i, hi, rfl⟩ := List.mem_map.mp h
  exact ⟨i, rfl, hi⟩
section
variable {P : Program} {w : World} {K : PySem.W.Frag} {mg : Str → Option Value} {base : Heap}
def spSts : Sp := fun vs H Q _ => ∃ (a g : Addr) (gs : List Int) (m : Nat) (mo : Nat) (b : Nat), vs = [.ref a, .ref g, .int (m : Int), .int (mo : Int)] ∧ Src H a b ∧ b ≤ 50000 ∧ g ≠ a ∧ H g = some (.lst (gs.map V.int)) ∧ GapsOk gs ∧ 1 ≤ m ∧ m ≤ gs.length ∧ 1 ≤ mo ∧ mo ≤ 40 ∧
  ∀ (r : Addr) (bs : List Int) (H' : Hp), H r = none → H' r = some (.lst (bs.map V.int)) → 1 ≤ bs.length → bs.length ≤ mo → Kx a H H' → Src H' a (b + 400) → Q (.ref r) H'
def lsN : List Str := ["_law_source", "_law_gaps", "_law_count", "_law_most", "_law_period", "_law_own", "_law_result", "_law_client", "_law_base", "_law_apart", "_law_far"]
theorem scSts : FnScope lsN ["_law_source", "_law_gaps", "_law_count", "_law_most"] (defScope s_law_starts) := ⟨rfl, rfl, rfl, by decide +kernel, rfl, by decide +kernel, by decide +kernel⟩
theorem ok_sts {f C fN fO fR : Addr} {fd fdN fdO fdR : FuncData} (F : Fun K "_law_starts" "_law_starts" s_law_starts f fd) (T : Txt K mg C) (GN : FnOk P w K mg base CX0 1 fN fdN ["_law_source", "_law_bound"] spNext) (bN : Binds K fdN ["_law_source", "_law_bound"] []) (mN : mg "_law_draw" = some (.ref fN)) (kN : PySem.W.keepIn K (.ref fN) = true)
    (GO : FnOk P w K mg base CX0 2 fO fdO ["_law_source", "_law_options"] spOne) (bO : Binds K fdO ["_law_source", "_law_options"] []) (mO : mg "_law_choice" = some (.ref fO)) (kO : PySem.W.keepIn K (.ref fO) = true)
    (GR : FnOk P w K mg base CX0 1 fR fdR ["_law_gaps", "_law_count", "_law_start"] spLRes) (bR : Binds K fdR ["_law_gaps", "_law_count", "_law_start"] []) (mR : mg "_law_residues" = some (.ref fR)) (kR : PySem.W.keepIn K (.ref fR) = true) : FnOk P w K mg base CX0 3 f fd ["_law_source", "_law_gaps", "_law_count", "_law_most"] spSts := by
  refine F.ok scSts (fun vs H Q E h => ?_) (fun cdv A outer s H vs Q E hr h => ?_)
  · obtain ⟨a, g, gs, m, mo, b, rfl, _⟩ := h
    rfl
  · obtain ⟨a, g, gs, m, mo, b, rfl, S, hb, nga, hg, okG, h1, h2, hm1, hm40, k⟩ := h
    have hr1 := hr.mono (show 1 ≤ 2 by decide)
    have hp := per_bd okG h1 h2
    refine ⟨_, (pss_cons (ps_asg (pe_call GR hr1 rfl mR kR bR .nil pass0 (pa_cons (pv 1) (pa_cons (pv 2) (pa_cons pe_int pa_nil)))) (pg_tup rfl (pgs_cons (pg_name (i := 4) scSts.nd rfl (Or.inl rfl)) (pgs_cons (pg_name (i := 5) scSts.nd rfl (Or.inl rfl)) pgs_nil)))) (pss_cons (ps_set (i := 6) scSts.nd rfl (Or.inl rfl) (pe_lst (pa_cons (pe_op op_sub (pe_call GN hr1 rfl mN kN bN .nil pass0 (pa_cons (pv 0) (pa_cons pe_int pa_nil))) pe_int) pa_nil))) (pss_cons (ps_for PassesOwn.never rfl (pi_range1 rfl T.range (pa_cons (pe_call GN hr1 rfl mN kN bN .nil pass0 (pa_cons (pv 0) (pa_cons (pv 3) pa_nil))) pa_nil)) (pg_name (i := 7) scSts.nd rfl (Or.inl rfl)) (pss_cons (ps_set (i := 8) scSts.nd rfl (Or.inl rfl) (pe_call GO hr rfl mO kO bO .nil pass0 (pa_cons (pv 0) (pa_cons (pv 6) pa_nil)))) (pss_cons (ps_set (i := 9) scSts.nd rfl (Or.inl rfl) (pe_op op_sub (pe_call GO hr rfl mO kO bO .nil pass0 (pa_cons (pv 0) (pa_cons (pv 5) pa_nil))) (pe_call GO hr rfl mO kO bO .nil pass0 (pa_cons (pv 0) (pa_cons (pv 5) pa_nil))))) (pss_cons (ps_set (i := 10) scSts.nd rfl (Or.inl rfl) (pe_op op_mul (pv 4) (pe_call GO hr rfl mO kO bO .nil pass0 (pa_cons (pv 0) (pa_cons (pe_lst (pa_cons pe_int (pa_cons pe_int (pa_cons pe_int (pa_cons (pe_un un_neg pe_int) (pa_cons (pe_call GN hr1 rfl mN kN bN .nil pass0 (pa_cons (pv 0) (pa_cons (pe_op op_pow pe_int pe_int) pa_nil))) pa_nil)))))) pa_nil))))) (pss_one (ps_expr (pe_bm PySem.F.plainAttrs_list PySem.F.slot_list_append PySem.F.type_list_append mt_append (pv 6) (pa_cons (pe_op op_add (pv 8) (pe_call GO hr rfl mO kO bO .nil pass0 (pa_cons (pv 0) (pa_cons (pe_lst (pa_cons (pv 9) (pa_cons (pv 9) (pa_cons (pe_op op_add (pv 9) (pv 10)) (pa_cons (pv 10) (pa_cons (pe_op op_sub (pe_call GN hr1 rfl mN kN bN .nil pass0 (pa_cons (pv 0) (pa_cons pe_int pa_nil))) pe_int) pa_nil)))))) pa_nil)))) pa_nil)))))))) (pss_one (ps_ret (pv 6)))))), ?_⟩
    refine ⟨_, rfl, _, rfl, g, gs, m, 0, rfl, hg, okG, h1, h2, fun u ow H1 how S1 hu how1 => ?_⟩
    refine ⟨u, _, rfl, SqT.of hu, rfl, _, _, rfl, _, _, rfl, rfl, ?_⟩
    have R1 := S.mono S1
    have nwa : ow ≠ a := (S.new how).symm
    -- the first start
    refine ⟨_, rfl, a, 60, b, rfl, R1, by omega, by decide, by decide, fun x0 H2 _ _ kx2 R2 => ?_⟩
    refine ⟨_, _, rfl, rfl, (by show 1 ≤ sizeLine; decide), fun r hrn => ?_⟩
    have how2 := kx2 _ _ nwa how1
    have nra : r ≠ a := (R2.new hrn).symm
    have nrw : ow ≠ r := ne_of_none how2 hrn
    have S3 := same_new (o := .lst [V.int (x0 - 30)]) hrn
    have kx3 : Kx a H (upd H2 r (.lst [V.int (x0 - 30)])) := ((Kx.of S1).trans kx2).trans (Kx.of S3)
    have hr3 := upd_same (H := H2) (a := r) (o := .lst [V.int (x0 - 30)])
    have R3 := R2.mono S3
    have how3 := S3 _ _ how2
    have hHr : H r = none := ((Kx.of S1).trans kx2).free nra hrn
    generalize (upd H2 r (.lst [V.int (x0 - 30)])) = H3 at kx3 hr3 R3 how3 ⊢
    clear S3 R2 how2 kx2
    refine ⟨_, rfl, _, rfl, a, (mo : Int), b + 1, rfl, R3, by omega, by omega, by omega, fun cn H4 cn0 cn1 kx4 R4 => ?_⟩
    have hr4 := kx4 _ _ nra hr3
    have how4 := kx4 _ _ nwa how3
    refine ⟨cn, rfl, by omega, by omega, for_range (lo := 0) (n := cn.toNat) (fun i σ H' => (∃ v7 v8 v9 v10, σ = [some (.ref a), some (.ref g), some (.int (m : Int)), some (.int (mo : Int)), some (.int (per gs m)), some (.ref ow), some (.ref r), v7, v8, v9, v10]) ∧ Kx2 a r H4 H' ∧ Src H' a (b + 2 + 8 * i) ∧ ∃ bs : List Int, bs.length = 1 + i ∧ H' r = some (.lst (bs.map V.int)))
      ⟨⟨none, none, none, none, rfl⟩, Kx2.refl _ _ _, R4, [x0 - 30], rfl, hr4⟩ ?_ ?_⟩
    · rintro i σ H5 hi ⟨⟨v7, v8, v9, v10, rfl⟩, k5, R5, bs, hbl, hr5⟩
      have hiL : i ≤ 40 := by omega
      have how5 := k5 _ _ nwa nrw how4
      -- base
      refine ⟨_, rfl, _, rfl, a, r, bs.map V.int, b + 2 + 8 * i, rfl, R5, by omega, nra, hr5, by rw [List.length_map]; omega, by rw [List.length_map]; omega, fun x H6 hx kx6 R6 => ?_⟩
      obtain ⟨x, rfl, _⟩ := int_of_mem hx
      have hr6 := kx6 _ _ nra hr5
      have how6 := kx6 _ _ nwa how5
      -- apart
      refine ⟨_, rfl, _, rfl, a, ow, (resid gs m 0).map V.int, b + 2 + 8 * i + 1, rfl, R6, by omega, nwa, how6, by rw [List.length_map, resid_len]; omega, by rw [List.length_map, resid_len]; have := okG.1; omega, fun y H7 hy kx7 R7 => ?_⟩
      obtain ⟨y, rfl, _⟩ := int_of_mem hy
      refine ⟨_, rfl, _, rfl, a, ow, (resid gs m 0).map V.int, b + 2 + 8 * i + 1 + 1, rfl, R7, by omega, nwa, kx7 _ _ nwa how6, by rw [List.length_map, resid_len]; omega, by rw [List.length_map, resid_len]; have := okG.1; omega, fun z H8 hz kx8 R8 => ?_⟩
      obtain ⟨z, rfl, _⟩ := int_of_mem hz
      refine ⟨_, _, rfl, rfl, ?_⟩
      -- far
      refine ⟨_, rfl, _, rfl, _, rfl, _, rfl, _, _, rfl, rfl, ⟨by decide, by decide, by decide⟩, a, _, b + 2 + 8 * i + 1 + 1 + 1, rfl, R8, by omega, by decide, by decide, fun d H9 _ _ kx9 R9 => ?_⟩
      refine ⟨(by show 5 ≤ sizeLine; decide), fun q1 hq1 => ?_⟩
      refine ⟨a, q1, [V.int 0, .int 0, .int 1, .int (-2), .int d], b + 2 + 8 * i + 1 + 1 + 1 + 1, rfl, R9.mono (same_new hq1), by omega, (R9.new hq1).symm, upd_same, by show 0 < 5; decide, by show 5 < 1000; decide, fun e H10 he kx10 R10 => ?_⟩
      obtain ⟨e, rfl⟩ : ∃ i : Int, e = .int i := by
        simp only [List.mem_cons, List.not_mem_nil, or_false] at he
        rcases he with rfl | rfl | rfl | rfl | rfl <;> exact ⟨_, rfl⟩
      refine ⟨_, _, rfl, rfl, .inl ⟨by omega, by omega⟩, ?_⟩
      have kx610 : Kx a H5 H10 := ((((kx6.trans kx7).trans kx8).trans kx9).trans (Kx.of (same_new hq1))).trans kx10
      have hr10 := kx610 _ _ nra hr5
      -- the next start
      refine ⟨_, rfl, .inl ⟨rfl, _, SqL.of hr10⟩, _, rfl, _, rfl, _, rfl, _, rfl, _, rfl, _, rfl, _, _, rfl, rfl, _, rfl, _, rfl, a, 60, b + 2 + 8 * i + 1 + 1 + 1 + 1 + 1, rfl, R10, by omega, by decide, by decide, fun d2 H11 _ _ kx11 R11 => ?_⟩
      refine ⟨_, _, rfl, rfl, (by show 5 ≤ sizeLine; decide), fun q2 hq2 => ?_⟩
      refine ⟨a, q2, _, b + 2 + 8 * i + 1 + 1 + 1 + 1 + 1 + 1, rfl, R11.mono (same_new hq2), by omega, (R11.new hq2).symm, upd_same, by show 0 < 5; decide, by show 5 < 1000; decide, fun e2 H12 he2 kx12 R12 => ?_⟩
      obtain ⟨e2, rfl⟩ : ∃ i : Int, e2 = .int i := by
        simp only [List.mem_cons, List.not_mem_nil, or_false] at he2
        rcases he2 with rfl | rfl | rfl | rfl | rfl <;> exact ⟨_, rfl⟩
      have kx512 : Kx a H5 H12 := ((kx610.trans kx11).trans (Kx.of (same_new hq2))).trans kx12
      have hr12 := kx512 _ _ nra hr5
      refine ⟨_, _, rfl, rfl, r, _, _, rfl, rfl, hr12, ?_, ?_⟩
      · rw [List.length_map]
        exact small1000 (by omega)
      exact ⟨⟨_, _, _, _, rfl⟩, (k5.kx kx512).upd, (R12.off nra.symm).le (by omega), bs ++ [x + e2], by rw [List.length_append, hbl]; show 1 + i + 1 = _; omega, by rw [upd_same, List.map_append]; rfl⟩
    · rintro σ H5 ⟨⟨v7, v8, v9, v10, rfl⟩, k5, R5, bs, hbl, hr5⟩
      refine ⟨_, rfl, k r bs H5 hHr hr5 (by omega) (by omega) (fun c u n e => k5 c u n (ne_of_none e hHr) (kx4 c u n (kx3 c u n e))) (R5.le (by omega))⟩
end
end RS
namespace RS
open PySem L2
/-! ### a counting dict, its keys -/
def Keyed (kvs : List (Key × V)) (ks : List Int) : Prop := kvs.map (·.1) = ks.map (fun r => (Sum.inl r : Key))
theorem Keyed.nil : Keyed [] [] := rfl
theorem Keyed.put {kvs : List (Key × V)} {ks : List Int} (h : Keyed kvs ks) (r : Int) (v : V) : ∃ ks', Keyed (putK kvs (Sum.inl r) v) ks' := by
  unfold putK
  split
  · refine ⟨ks, ?_⟩
    unfold Keyed at h ⊢
    rw [List.map_map, ← h]
    refine List.map_congr_left fun p _ => ?_
    show (if p.1 = Sum.inl r then (p.1, v) else p).1 = p.1
    split <;> rfl
  · refine ⟨ks ++ [r], ?_⟩
    unfold Keyed at h ⊢
    rw [List.map_append, List.map_append, h]
    rfl
theorem Keyed.at {kvs : List (Key × V)} {ks : List Int} (h : Keyed kvs ks) {i : Nat} {k : Key} {v : V} (e : kvs[i]? = some (k, v)) : ∃ r, ks[i]? = some r ∧ k = Sum.inl r := by
  have e1 : (kvs.map (·.1))[i]? = some k := by rw [List.getElem?_map, e]; rfl
  rw [h, List.getElem?_map] at e1
  cases e2 : ks[i]? with
  | none => rw [e2] at e1; cases e1
  | some r => rw [e2] at e1; exact ⟨r, rfl, (Option.some.inj e1).symm⟩
theorem Keyed.mem {kvs : List (Key × V)} {ks : List Int} (h : Keyed kvs ks) {f : Int → Nat} (hf : CntD kvs f) (r : Int) : r ∈ ks ↔ f r ≠ 0 := by
  have e1 : r ∈ ks ↔ (Sum.inl r : Key) ∈ kvs.map (·.1) := by
    rw [h]
    constructor
    · exact fun z => List.mem_map.mpr ⟨r, z, rfl⟩
    · intro z
      obtain ⟨y, hy, e⟩ := List.mem_map.mp z
      rw [← Sum.inl.inj e]
      exact hy
  have e2 : (Sum.inl r : Key) ∈ kvs.map (·.1) ↔ (valV kvs (Sum.inl r)).isSome = true := by
    rw [← valV_any, List.any_eq_true]
    constructor
    · intro z
      obtain ⟨p, hp, e⟩ := List.mem_map.mp z
      exact ⟨p, hp, decide_eq_true e⟩
    · rintro ⟨p, hp, e⟩
      exact List.mem_map.mpr ⟨p, hp, of_decide_eq_true e⟩
  rw [e1, e2, hf r]
  split <;> simp_all
theorem closed_iff {T : List (List Int)} {M : List Nat} : ClosedS T M ↔ ∀ r, cnt T M r ≠ 0 → 1 < cnt T M r := by
  constructor
  · intro h r hr
    have : ∃ c ∈ M, r ∈ T.getD c [] := by
      refine Classical.byContradiction fun z => hr ?_
      refine List.sum_eq_zero_iff_forall_eq_nat.mpr fun x hx => ?_
      obtain ⟨c, hc, rfl⟩ := List.mem_map.mp hx
      exact List.count_eq_zero.mpr fun q => z ⟨c, hc, q⟩
    obtain ⟨c, hc, hr⟩ := this
    exact of_decide_eq_true (List.all_eq_true.mp (h c hc) r hr)
  · intro h c hc
    refine List.all_eq_true.mpr fun r hr => decide_eq_true (h r ?_)
    have h2 := List.count_pos_iff.mpr hr
    have h3 := mem_le_sum (List.mem_map.mpr ⟨c, hc, rfl⟩ : (T.getD c []).count r ∈ M.map fun c => (T.getD c []).count r)
    unfold cnt
    omega
section
variable {P : Program} {w : World} {K : PySem.W.Frag} {mg : Str → Option Value} {base : Heap}
def spClo : Sp := fun vs H Q _ => ∃ (g b ms : Addr) (gs : List Int) (m : Nat) (bs : List Int) (M : List Nat), vs = [.ref g, .int (m : Int), .ref b, .ref ms] ∧ H g = some (.lst (gs.map V.int)) ∧ GapsOk gs ∧ 1 ≤ m ∧ m ≤ gs.length ∧ H b = some (.lst (bs.map V.int)) ∧ H ms = some (.lst (M.map nV)) ∧ (∀ x ∈ M, x < bs.length) ∧ M.length ≤ 100 ∧
  ∀ r H', (r = true ↔ ClosedS (tabOf gs m bs) M) → Same H H' → Q (.bl r) H'
def lcN : List Str := ["_law_gaps", "_law_count", "_law_starts_here", "_law_members", "_law_counts", "_law_member", "_law_residue"]
theorem scClo : FnScope lcN ["_law_gaps", "_law_count", "_law_starts_here", "_law_members"] (defScope s_law_closed) := ⟨rfl, rfl, rfl, by decide +kernel, rfl, by decide +kernel, by decide +kernel⟩
theorem tab_row {gs : List Int} {m : Nat} {bs : List Int} {c : Nat} {s : Int} (h : bs[c]? = some s) : (tabOf gs m bs).getD c [] = resid gs m s := by
  unfold tabOf
  rw [List.getD_eq_getElem?_getD, List.getElem?_map, h]
  rfl
theorem ok_clo {f C fR : Addr} {fd fdR : FuncData} (F : Fun K "_law_closed" "_law_closed" s_law_closed f fd) (T : Txt K mg C) (GR : FnOk P w K mg base CX0 1 fR fdR ["_law_gaps", "_law_count", "_law_start"] spLRes) (bR : Binds K fdR ["_law_gaps", "_law_count", "_law_start"] []) (mR : mg "_law_residues" = some (.ref fR)) (kR : PySem.W.keepIn K (.ref fR) = true) : FnOk P w K mg base CX0 2 f fd ["_law_gaps", "_law_count", "_law_starts_here", "_law_members"] spClo := by
  refine F.ok scClo (fun vs H Q E h => ?_) (fun cdv A outer s H vs Q E hr h => ?_)
  · obtain ⟨g, b, ms, gs, m, bs, M, rfl, _⟩ := h
    rfl
  · obtain ⟨g, b, ms, gs, m, bs, M, rfl, hg, okG, h1, h2, hb, hms, hin, hM, k⟩ := h
    have hu := hu_of hr
    have hg20 := okG.1
    refine ⟨_, (pss_cons (ps_set (i := 4) scClo.nd rfl (Or.inr rfl) pe_dnewK) (pss_cons (ps_for PassesOwn.never rfl (pi_list (pv 3)) (pg_name (i := 5) scClo.nd rfl (Or.inl rfl)) (pss_one (ps_for PassesOwn.never rfl (pi_list (pe_ix ix_tup (pe_call GR hr rfl mR kR bR .nil pass0 (pa_cons (pv 0) (pa_cons (pv 1) (pa_cons (pe_ix ix_list (pv 2) (pv 5) (fun _ _ => rfl)) pa_nil)))) pe_int (fun _ _ => rfl))) (pg_name (i := 6) scClo.nd rfl (Or.inl rfl)) (pss_one (ps_dput hu (pv 4) (pv 6) (pe_op op_add (pe_dget2 hu (pv 4) (pv 6) pe_int ⟨by rfl, by rfl, by rfl, by rfl⟩) pe_int) rfl))))) (pss_one (ps_ret (pe_cmpR (op_eqD hr.units) (pe_lock (pe_lc (own := [("_law_residue", 6)]) (g := gName 6) rfl scClo.nd (pi_keys (pv 4)) (blkOk_by (own := [("_law_residue", 6)]) (N := lcN) (sc := (defScope s_law_closed)) (by decide +kernel)) (fun _ _ _ _ _ => (pg_name (i := 6) scClo.nd rfl (Or.inl rfl))) (fun _ _ _ _ _ => pts_one (pt_cmpR op_lt (pe_dget hu (pv 4) (pv 6) (fun _ _ => rfl)) pe_int (nomark _))) (fun _ _ _ _ _ => (pv 6)))) (pe_lst pa_nil) (nomark _)))))), ?_⟩
    intro d hd
    have ndb : b ≠ d := ne_of_none hb hd
    have ndg : g ≠ d := ne_of_none hg hd
    have ndm : ms ≠ d := ne_of_none hms hd
    refine ⟨_, rfl, ms, rfl, ⟨_, SqL.of (by rw [upd_ne ndm]; exact hms)⟩, for_list (a := ms) (xs := M.map nV) (fun i σ H' => Kx d H H' ∧ ∃ kvs ks v5 v6, σ = [some (.ref g), some (.int (m : Int)), some (.ref b), some (.ref ms), some (.ref d), v5, v6] ∧ H' d = some (.dK kvs) ∧ CntD kvs (cnt (tabOf gs m bs) (M.take i)) ∧ Keyed kvs ks ∧ kvs.length ≤ 20 * i)
      ⟨fun b o nb e => by rw [upd_ne nb]; exact e, [], [], none, none, rfl, upd_same, CntD.nil, Keyed.nil, Nat.zero_le _⟩ (fun i σ H' _ q => SqL.of (q.1 _ _ ndm hms)) ?_ ?_⟩
    · rintro i x σ H2 hx ⟨K2, kvs, ks, w5, w6, rfl, hd2, hC, hK, hkv⟩
      have hi := (List.getElem?_eq_some_iff.mp hx).1
      rw [List.length_map] at hi
      obtain ⟨c, hc, rfl⟩ := nmap_of hx
      have hcl := hin c (mem_get hc)
      have eb := List.getElem?_eq_getElem hcl
      have hrow := tab_row (gs := gs) (m := m) eb
      refine ⟨_, rfl, _, rfl, _, rfl, _, rfl, b, _, _, _, rfl, rfl, SqL.of (K2 _ _ ndb hb), at_map eb, ?_⟩
      refine ⟨g, gs, m, bs[c], rfl, K2 _ _ ndg hg, okG, h1, h2, fun u rr H3 hrr S3 hu3 hrr3 => ?_⟩
      refine ⟨u, _, _, .ref rr, rfl, rfl, SqT.of hu3, atI_nat (j := 1) rfl, ?_⟩
      have nrd : rr ≠ d := fun z => by rw [z, hd2] at hrr; cases hrr
      have hd3 := S3 _ _ hd2
      have K3 : Kx d H H3 := K2.trans (Kx.of S3)
      refine ⟨rr, rfl, ⟨_, SqL.of hrr3⟩, for_list (a := rr) (xs := (resid gs m bs[c]).map V.int) (fun j σ H' => Kx d H H' ∧ H' rr = some (.lst ((resid gs m bs[c]).map V.int)) ∧ ∃ kvs ks v6, σ = [some (.ref g), some (.int (m : Int)), some (.ref b), some (.ref ms), some (.ref d), some (.int (c : Int)), v6] ∧ H' d = some (.dK kvs) ∧ CntD kvs (fun y => cnt (tabOf gs m bs) (M.take i) y + ((resid gs m bs[c]).take j).count y) ∧ Keyed kvs ks ∧ kvs.length ≤ 20 * i + j)
        ⟨K3, hrr3, kvs, ks, w6, rfl, hd3, hC.congr (fun y => by simp), hK, hkv⟩ (fun j σ H' _ q => SqL.of q.2.1) ?_ ?_⟩
      · rintro j x σ H4 hx ⟨K4, hr4, kvs4, ks4, w6, rfl, hd4, hC4, hK4, hkv4⟩
        have hj := (List.getElem?_eq_some_iff.mp hx).1
        rw [List.length_map, resid_len] at hj
        obtain ⟨y, hy, rfl⟩ := map_of hx
        refine ⟨_, rfl, d, rfl, .inl ⟨kvs4, .inl hd4⟩, _, rfl, _, DGet.k (k := Sum.inl y) hd4, ?_⟩
        rw [hC4.get y]
        refine ⟨_, _, rfl, rfl, _, rfl, _, rfl, d, _, rfl, DPut.k (k := Sum.inl y) hd4 (small_line (by omega)), ?_⟩
        obtain ⟨ks5, hK5⟩ := hK4.put y (V.int (((cnt (tabOf gs m bs) (M.take i) y + ((resid gs m bs[c]).take j).count y : Nat) : Int) + 1))
        refine ⟨K4.trans Kx.upd, by rw [upd_ne nrd]; exact hr4, _, ks5, _, rfl, upd_same, hC4.put y (fun z => ?_), hK5, ?_⟩
        · rw [List.take_add_one, hy, List.count_append]
          show _ + (_ + List.count z [y]) = _
          rw [count_one]
          omega
        · exact Nat.le_trans (length_putK _ _ _) (by omega)
      · rintro σ H4 ⟨K4, hr4, kvs4, ks4, w6, rfl, hd4, hC4, hK4, hkv4⟩
        rw [List.length_map, List.take_length] at hC4
        rw [List.length_map, resid_len] at hkv4
        refine ⟨K4, kvs4, ks4, _, _, rfl, hd4, hC4.congr (fun y => ?_), hK4, by omega⟩
        rw [List.take_add_one, hc]
        show cnt _ (M.take i ++ [c]) y = _
        rw [cnt_snoc, hrow]
    rintro σ H2 ⟨K2, kvs, ks, w5, w6, rfl, hd2, hC, hK, hkv⟩
    rw [List.length_map, List.take_length] at hC
    have hkl : kvs.length = ks.length := by
      have := congrArg List.length hK
      simpa using this
    rw [List.length_map] at hkv
    have S2 : Same H H2 := fun b o e => K2 _ _ (ne_of_none e hd) e
    -- what is counted once
    refine ⟨d, .dK kvs, hd2, trivial, fun od => ?_⟩
    have hd3 := upd_same (H := H2) (a := d) (o := .frz od (.dK kvs))
    refine ⟨_, rfl, d, od, rfl, .inl ⟨kvs, hd3, fun D hD => lc_it (walk_keys (d := d) (o := od) (kvs := kvs)) (fun i H' => Same (upd H2 d (.frz od (.dK kvs))) H' ∧ H' D = some (.lst (((ks.take i).filter fun r => decide (cnt (tabOf gs m bs) M r < 2)).map V.int))) ⟨same_app hD (fun _ _ e => e), upd_same⟩ (fun i H' _ q => q.1 _ _ hd3) (fun i x H4 H5 hi q hy => ?_) (fun H4 q => ?_)⟩⟩
    · obtain ⟨S4, hD4⟩ := q
      obtain ⟨rfl, kk, v, hkk, rfl⟩ := hy
      obtain ⟨r, hr0, rfl⟩ := hK.at hkk
      have hne := (hK.mem hC r).mp (mem_get hr0)
      refine ⟨rfl, _, rfl, _, rfl, d, .int (cnt (tabOf gs m bs) M r : Int), rfl, ?_, _, _, rfl, rfl, _, rfl, ?_⟩
      · refine .inl ⟨kvs, Sum.inl r, .inr ⟨od, S4 _ _ hd3⟩, rfl, ?_⟩
        rw [hC r, if_neg hne]
      rw [List.take_add_one, hr0, List.filter_append, List.map_append]
      by_cases hlt : cnt (tabOf gs m bs) M r < 2
      · refine iteTb (decide_eq_true (by omega)) ?_
        refine ⟨_, rfl, _, hD4, ?_, same_app hD S4, ?_⟩
        · rw [List.length_map]
          have h3 := (List.filter_sublist (p := fun r => decide (cnt (tabOf gs m bs) M r < 2)) (l := ks.take i)).length_le
          rw [List.length_take] at h3
          exact small_line (by omega)
        · rw [upd_same]
          show _ = some (HO.lst (_ ++ (List.filter _ [r]).map V.int))
          rw [show List.filter (fun r => decide (cnt (tabOf gs m bs) M r < 2)) [r] = [r] by simp [hlt]]
          rfl
      · refine iteFb (decide_eq_false (by omega)) ⟨S4, ?_⟩
        show _ = some (HO.lst (_ ++ (List.filter _ [r]).map V.int))
        rw [show List.filter (fun r => decide (cnt (tabOf gs m bs) M r < 2)) [r] = [] by simp [hlt], List.map_nil, List.append_nil]
        exact hD4
    · obtain ⟨S4, hD4⟩ := q
      rw [hkl, List.take_length] at hD4
      have nDd : D ≠ d := fun z => by rw [z, hd3] at hD; cases hD
      refine ⟨S4 _ _ hd3, by show 0 ≤ sizeLine; decide, fun e0 he0 => ?_⟩
      have hDl : upd H4 d (.dK kvs) D = some (.lst ((ks.filter fun r => decide (cnt (tabOf gs m bs) M r < 2)).map V.int)) := by rw [upd_ne nDd]; exact hD4
      refine ⟨_, _, list_dp (SqL.of (same_new he0 _ _ hDl)), list_dp (ns := []) (SqL.of upd_same), PySem.W.ke_shaped_ints _, PySem.W.ke_shaped_ints [], ?_⟩
      rw [list_eqv]
      refine k _ _ ?_ (fun b o e => ?_)
      · rw [decide_eq_true_iff, closed_iff, List.filter_eq_nil_iff]
        constructor
        · intro h r hr0
          have := h r ((hK.mem hC r).mpr hr0)
          simp at this
          omega
        · intro h r hr0
          have := h r ((hK.mem hC r).mp hr0)
          simp
          omega
      · refine same_new he0 _ _ ?_
        have nb : b ≠ d := ne_of_none e hd
        rw [upd_ne nb]
        exact S4 _ _ (by rw [upd_ne nb]; exact S2 _ _ e)
end
end RS
namespace RS
open PySem L2
/-! ### all subsets -/
def cst (M : List Nat) : List Int := M.map fun n : Nat => (n : Int)
def subs : Nat → List (List Nat)
  | 0 => [[]]
  | n + 1 => subs n ++ (subs n).map (· ++ [n])
theorem subs_len : ∀ n, (subs n).length = 2 ^ n
  | 0 => rfl
  | n + 1 => by
    show (subs n ++ (subs n).map (· ++ [n])).length = _
    rw [List.length_append, List.length_map, subs_len n, Nat.pow_succ]
    omega
theorem subs_ok : ∀ (n : Nat) (M : List Nat), M ∈ subs n → M.Pairwise (· < ·) ∧ (∀ x ∈ M, x < n) ∧ M.length ≤ n
  | 0, M, h => by
    obtain rfl := List.mem_singleton.mp h
    exact ⟨List.Pairwise.nil, (fun x hx => nomatch hx), Nat.le_refl 0⟩
  | n + 1, M, h => by
    rcases List.mem_append.mp h with h | h
    · obtain ⟨a, b, c⟩ := subs_ok n M h
      exact ⟨a, fun x hx => Nat.lt_succ_of_lt (b x hx), Nat.le_succ_of_le c⟩
    · obtain ⟨N, hN, rfl⟩ := List.mem_map.mp h
      obtain ⟨a, b, c⟩ := subs_ok n N hN
      refine ⟨List.pairwise_append.mpr ⟨a, List.pairwise_singleton _ _, fun x hx y hy => ?_⟩, fun x hx => ?_, by rw [List.length_append]; show N.length + 1 ≤ n + 1; omega⟩
      · rw [List.mem_singleton.mp hy]
        exact b x hx
      · rcases List.mem_append.mp hx with hx | hx
        · exact Nat.lt_succ_of_lt (b x hx)
        · rw [List.mem_singleton.mp hx]
          exact Nat.lt_succ_self n
theorem subs_all : ∀ (n : Nat) (M : List Nat), M.Pairwise (· < ·) → (∀ x ∈ M, x < n) → M ∈ subs n
  | 0, M, _, h => by
    cases M with
    | nil => exact List.mem_singleton.mpr rfl
    | cons x r => exact absurd (h x (List.mem_cons_self ..)) (Nat.not_lt_zero _)
  | n + 1, M, hp, h => by
    by_cases hn : n ∈ M
    · -- n stands last
      have e : M = M.filter (fun x => decide (x < n)) ++ [n] := by
        have h1 : (M.filter (fun x => decide (x < n)) ++ [n]).Pairwise (· < ·) := by
          refine List.pairwise_append.mpr ⟨hp.sublist List.filter_sublist, List.pairwise_singleton _ _, fun x hx y hy => ?_⟩
          rw [List.mem_singleton.mp hy]
          exact of_decide_eq_true (List.mem_filter.mp hx).2
        refine List.Perm.eq_of_pairwise (le := fun a b : Nat => a < b) (fun a b _ _ h h' => by omega) hp h1 ((List.perm_ext_iff_of_nodup (hp.imp fun h => by omega) (h1.imp fun h => by omega)).mpr fun x => ?_)
        rw [List.mem_append, List.mem_singleton, List.mem_filter, decide_eq_true_iff]
        constructor
        · intro hx
          have := h x hx
          by_cases q : x = n
          · exact .inr q
          · exact .inl ⟨hx, by omega⟩
        · rintro (⟨hx, _⟩ | rfl)
          · exact hx
          · exact hn
      rw [e]
      refine List.mem_append_right _ (List.mem_map.mpr ⟨_, subs_all n _ (hp.sublist List.filter_sublist) (fun x hx => of_decide_eq_true (List.mem_filter.mp hx).2), rfl⟩)
    · exact List.mem_append_left _ (subs_all n M hp fun x hx => by
        have := h x hx
        have : x ≠ n := fun q => hn (q ▸ hx)
        omega)
theorem LsAt.app {H : Hp} {ts us : List Addr} {T U : List (List Int)} (h : LsAt H ts T) (g : LsAt H us U) : LsAt H (ts ++ us) (T ++ U) := by
  refine ⟨by simp [h.1, g.1], fun i r e => ?_⟩
  by_cases hi : i < T.length
  · rw [List.getElem?_append_left hi] at e
    rw [List.getElem?_append_left (by rw [h.1]; exact hi)]
    exact h.2 i r e
  · rw [List.getElem?_append_right (by omega)] at e
    rw [List.getElem?_append_right (by rw [h.1]; omega), h.1]
    exact g.2 _ r e
section
variable {P : Program} {w : World} {K : PySem.W.Frag} {mg : Str → Option Value} {base : Heap}
def spSub : Sp := fun vs H Q _ => ∃ n : Nat, vs = [.int (n : Int)] ∧ n ≤ 10 ∧ ∀ q ts H', H q = none → Same H H' → H' q = some (.lst (ts.map V.ref)) → LsAt H' ts ((subs n).map cst) → Q (.ref q) H'
def suN : List Str := ["_law_size", "_law_found", "_law_number", "_law_part"]
theorem scSub : FnScope suN ["_law_size"] (defScope s_law_subsets) := ⟨rfl, rfl, rfl, by decide +kernel, rfl, by decide +kernel, by decide +kernel⟩
theorem two_pow_le {i : Nat} (h : i ≤ 10) : 2 ^ i ≤ 1024 := by
  have : 2 ^ i ≤ 2 ^ 10 := Nat.pow_le_pow_right (by decide) h
  omega
theorem ok_sub {f C : Addr} {fd : FuncData} (F : Fun K "_law_subsets" "_law_subsets" s_law_subsets f fd) (T : Txt K mg C) : FnOk P w K mg base CX0 1 f fd ["_law_size"] spSub := by
  refine F.ok scSub (fun vs H Q E h => ?_) (fun cdv A outer s H vs Q E hr h => ?_)
  · obtain ⟨n, rfl, _⟩ := h
    rfl
  · obtain ⟨n, rfl, hn, k⟩ := h
    refine ⟨_, (pss_cons (ps_set (i := 1) scSub.nd rfl (Or.inl rfl) (pe_lst (pa_cons (pe_lst pa_nil) pa_nil))) (pss_cons (ps_for PassesOwn.never rfl (pi_range1 rfl T.range (pa_cons (pv 0) pa_nil)) (pg_name (i := 2) scSub.nd rfl (Or.inr rfl)) (pss_one (ps_set (i := 1) scSub.nd rfl (Or.inl rfl) (pe_op op_cat (pv 1) (pe_lc (own := [("_law_part", 3)]) (g := gName 3) (tt := tYes) rfl scSub.nd (pi_list (pv 1)) (blkOk_by (own := [("_law_part", 3)]) (N := suN) (sc := (defScope s_law_subsets)) (by decide +kernel)) (fun _ _ _ _ _ => (pg_name (i := 3) scSub.nd rfl (Or.inl rfl))) (fun _ _ _ _ _ => pts_nil) (fun _ _ _ _ _ => (pe_op op_cat (pv 3) (pe_lst (pa_cons (pv 2) pa_nil))))))))) (pss_one (ps_ret (pv 1))))), ?_⟩
    refine ⟨by show 0 ≤ sizeLine; decide, fun l0 hl0 => ⟨by show 1 ≤ sizeLine; decide, fun f0 hf0 => ?_⟩⟩
    have s0 := (same_new (o := .lst []) hl0).trans (same_new (o := .lst [V.ref l0]) hf0)
    have L0 : LsAt (upd (upd H l0 (.lst [])) f0 (.lst [V.ref l0])) [l0] ((subs 0).map cst) := (LsAt.nil _).snoc (same_new hf0 _ _ upd_same)
    have hHf : H f0 = none := (same_new (o := .lst []) hl0).free hf0
    refine ⟨_, rfl, (n : Int), rfl, by omega, by omega, for_range (lo := 0) (n := ((n : Int)).toNat) (fun i σ H' => Same H H' ∧ ∃ f1 ts v2 v3, σ = [some (.int (n : Int)), some (.ref f1), v2, v3] ∧ H f1 = none ∧ H' f1 = some (.lst (ts.map V.ref)) ∧ LsAt H' ts ((subs i).map cst))
      ⟨s0, f0, [l0], none, none, rfl, hHf, upd_same, L0⟩ ?_ ?_⟩
    · rintro i σ H1 hi ⟨S1, f1, ts, v2, v3, rfl, hf1n, hf1, L1⟩
      have hi10 : i ≤ 10 := by omega
      have h2 := two_pow_le hi10
      have hlt := L1.1
      rw [List.length_map, subs_len] at hlt
      refine ⟨_, rfl, _, rfl, f1, rfl, ⟨_, SqL.of hf1⟩, fun D hD => lc_list (a := f1) (xs := ts.map V.ref) (fun j H' => Same H1 H' ∧ ∃ us, H' D = some (.lst (us.map V.ref)) ∧ LsAt H' us ((((subs i).map (· ++ [i])).take j).map cst) ∧ ∀ p ∈ us, p ≠ D) ⟨same_app hD (fun _ _ e => e), [], upd_same, by simpa using LsAt.nil _, fun p hp => nomatch hp⟩ (fun j H' _ q => q.1.seq (SqL.of hf1)) (fun j x H2 hx q => ?_) (fun H2 q => ?_)⟩
      · obtain ⟨S2, us, hus, Lu, nD⟩ := q
        have hj := (List.getElem?_eq_some_iff.mp hx).1
        rw [List.length_map] at hj
        have hj2 : j < (subs i).length := by rw [subs_len]; omega
        have eM := List.getElem?_eq_getElem hj2
        obtain ⟨p, hp, hpl⟩ := L1.2 j (cst (subs i)[j]) (by rw [List.getElem?_map, eM]; rfl)
        have ex : x = .ref p := by
          rw [List.getElem?_map, hp] at hx
          exact (Option.some.inj hx).symm
        subst ex
        have hM := subs_ok i _ (List.mem_of_getElem? eM)
        refine ⟨rfl, yes_t (iteT ?_)⟩
        refine ⟨_, rfl, _, rfl, (by show 1 ≤ sizeLine; decide), fun l hl => ?_⟩
        have hp3 := same_new (o := .lst [V.int (0 + (i : Int))]) hl _ _ (S2 _ _ hpl)
        refine ⟨p, l, _, _, rfl, rfl, hp3, upd_same, ?_, fun q hq => ?_⟩
        · rw [List.length_map]
          unfold cst
          rw [List.length_map]
          exact Nat.le_of_lt (small1000 (by have := hM.2.2; show _ + 1 ≤ 1000; omega))
        have S3 := (same_new (o := .lst [V.int (0 + (i : Int))]) hl).trans (same_new (o := .lst ((cst (subs i)[j]).map V.int ++ [V.int (0 + (i : Int))])) hq)
        have hD3 := S3 _ _ hus
        have nq : q ≠ D := fun z => by rw [z, same_new (o := .lst [V.int (0 + (i : Int))]) hl _ _ hus] at hq; cases hq
        have nD2 : ∀ p ∈ us ++ [q], p ≠ D := fun p' hp' => by
          rcases List.mem_append.mp hp' with h | h
          · exact nD p' h
          · rw [List.mem_singleton.mp h]
            exact nq
        have hlu := Lu.1
        rw [List.length_map, List.length_take, List.length_map] at hlu
        refine ⟨_, hD3, ?_, same_app hD (S2.trans S3), us ++ [q], ?_, ?_, nD2⟩
        · rw [List.length_map]
          exact small_line (by omega)
        · rw [upd_same, List.map_append]
          rfl
        · rw [List.take_add_one, List.getElem?_map, eM, List.map_append]
          refine ((Lu.mono S3).snoc (r := cst ((subs i)[j] ++ [i])) ?_).off nD2
          rw [upd_same]
          unfold cst
          rw [List.map_append, List.map_append, Int.zero_add]
          rfl
      · obtain ⟨S2, us, hus, Lu, nD⟩ := q
        rw [List.take_of_length_le (by rw [List.length_map, List.length_map, subs_len]; omega)] at Lu
        have hlu := Lu.1
        rw [List.length_map, List.length_map, subs_len] at hlu
        refine ⟨f1, D, _, _, rfl, rfl, S2 _ _ hf1, hus, ?_, fun F2 hF2 => ?_⟩
        · rw [List.length_map, List.length_map]
          exact Nat.le_of_lt (small_line (by omega))
        have S4 := same_new (o := .lst (ts.map V.ref ++ us.map V.ref)) hF2
        refine ⟨S1.trans (S2.trans S4), F2, ts ++ us, _, _, rfl, S1.free (S2.free hF2), by rw [upd_same, List.map_append], ?_⟩
        show LsAt _ _ ((subs i ++ (subs i).map (· ++ [i])).map cst)
        rw [List.map_append]
        exact ((L1.mono (S2.trans S4)).app (Lu.mono S4))
    · rintro σ H1 ⟨S1, f1, ts, v2, v3, rfl, hf1n, hf1, L1⟩
      rw [Int.toNat_natCast] at L1
      exact ⟨_, rfl, k f1 ts H1 hf1n S1 hf1 L1⟩
/-! ### the law's partners -/
def spLPa : Sp := fun vs H Q _ => ∃ (g b ms : Addr) (gs : List Int) (m : Nat) (bs : List Int) (M : List Nat) (c : Nat), vs = [.ref g, .int (m : Int), .ref b, .ref ms, .int (c : Int)] ∧ H g = some (.lst (gs.map V.int)) ∧ GapsOk gs ∧ 1 ≤ m ∧ m ≤ gs.length ∧ H b = some (.lst (bs.map V.int)) ∧ H ms = some (.lst (M.map nV)) ∧ (∀ x ∈ M, x < bs.length) ∧ M.length ≤ 100 ∧ c < bs.length ∧
  (∀ r ∈ (tabOf gs m bs).getD c [], near (tabOf gs m bs) M c r ≠ []) ∧ ∀ q H', H q = none → Same H H' → H' q = some (.tup ((mates (tabOf gs m bs) M c).map nV)) → Q (.ref q) H'
def lpN : List Str := ["_law_gaps", "_law_count", "_law_starts_here", "_law_members", "_law_client", "_law_result", "_law_residue", "_law_near", "_law_one"]
theorem scLPa : FnScope lpN ["_law_gaps", "_law_count", "_law_starts_here", "_law_members", "_law_client"] (defScope s_law_partners) := ⟨rfl, rfl, rfl, by decide +kernel, rfl, by decide +kernel, by decide +kernel⟩
theorem ok_lpa {f C fR : Addr} {fd fdR : FuncData} (F : Fun K "_law_partners" "_law_partners" s_law_partners f fd) (T : Txt K mg C) (GR : FnOk P w K mg base CX0 1 fR fdR ["_law_gaps", "_law_count", "_law_start"] spLRes) (bR : Binds K fdR ["_law_gaps", "_law_count", "_law_start"] []) (mR : mg "_law_residues" = some (.ref fR)) (kR : PySem.W.keepIn K (.ref fR) = true) : FnOk P w K mg base CX0 2 f fd ["_law_gaps", "_law_count", "_law_starts_here", "_law_members", "_law_client"] spLPa := by
  refine F.ok scLPa (fun vs H Q E h => ?_) (fun cdv A outer s H vs Q E hr h => ?_)
  · obtain ⟨g, b, ms, gs, m, bs, M, c, rfl, _⟩ := h
    rfl
  · obtain ⟨g, b, ms, gs, m, bs, M, c, rfl, hg, okG, h1, h2, hb, hms, hin, hM, hcl, hne, k⟩ := h
    have hg20 := okG.1
    refine ⟨_, (pss_cons (ps_set (i := 5) scLPa.nd rfl (Or.inl rfl) (pe_lst pa_nil)) (pss_cons (ps_for PassesOwn.never rfl (pi_list (pe_ix ix_tup (pe_call GR hr rfl mR kR bR .nil pass0 (pa_cons (pv 0) (pa_cons (pv 1) (pa_cons (pe_ix ix_list (pv 2) (pv 4) (fun _ _ => rfl)) pa_nil)))) pe_int (fun _ _ => rfl))) (pg_name (i := 6) scLPa.nd rfl (Or.inr rfl)) (pss_cons (ps_setLc (i := 7) (own := [("_law_one", 8)]) (g := gName 8) (by rfl) scLPa.nd rfl rfl (sw_true rfl rfl rfl (by decide +kernel)) (pi_list (pv 3)) (blkOk_by (own := [("_law_one", 8)]) (N := lpN) (sc := (defScope s_law_partners)) (by decide +kernel)) (fun _ _ _ _ _ => (pg_name (i := 8) scLPa.nd rfl (Or.inl rfl))) (fun _ _ _ _ _ => pts_one (PW.pt (pw_and (pt_cmpR op_ne (pv 8) (pv 4) (nomark _)) (pw_and1 (pt_cmpR (r := rIn K false) op_in_seq (pv 6) (pe_ixTK K (by rfl) (pe_call GR hr rfl mR kR bR .nil pass0 (pa_cons (pv 0) (pa_cons (pv 1) (pa_cons (pe_ixK K (by rfl) (pv 2) (pv 8)) pa_nil)))) pe_int) (by rfl)))))) (fun _ _ _ _ _ => (pv 8))) (pss_one (ps_expr (pe_bm PySem.F.plainAttrs_list PySem.F.slot_list_append PySem.F.type_list_append mt_append (pv 5) (pa_cons (pe_ix ix_list (pv 7) pe_int (fun _ _ => rfl)) pa_nil)))))) (pss_one (ps_ret (pe_callTy call_tuple_of (by rfl) T.tuple (by decide +kernel) (pa_cons (pv 5) pa_nil)))))), ?_⟩
    refine ⟨by show 0 ≤ sizeLine; decide, fun rl hrl => ?_⟩
    have S0 := same_new (o := .lst []) hrl
    have hrl0 := upd_same (H := H) (a := rl) (o := .lst [])
    generalize (upd H rl (.lst [])) = H0 at S0 hrl0 ⊢
    have eb := List.getElem?_eq_getElem hcl
    have hrow := tab_row (gs := gs) (m := m) eb
    refine ⟨_, rfl, _, rfl, _, rfl, _, rfl, b, _, _, _, rfl, rfl, SqL.of (S0 _ _ hb), at_map eb, ?_⟩
    refine ⟨g, gs, m, bs[c], rfl, S0 _ _ hg, okG, h1, h2, fun u rr H1 hrr S1 hu1 hrr1 => ?_⟩
    refine ⟨u, _, _, .ref rr, rfl, rfl, SqT.of hu1, atI_nat (j := 1) rfl, ?_⟩
    have S01 := S0.trans S1
    have hrl1 := S1 _ _ hrl0
    have nrr : rr ≠ rl := fun z => by rw [z, hrl0] at hrr; cases hrr
    have hml : (mates (tabOf gs m bs) M c).length = m := by unfold mates; rw [List.length_map, hrow, resid_len]
    refine ⟨rr, rfl, ⟨_, SqL.of hrr1⟩, for_list (a := rr) (xs := (resid gs m bs[c]).map V.int) (fun j σ H' => Kx rl H1 H' ∧ (∃ v6 v7, σ = [some (.ref g), some (.int (m : Int)), some (.ref b), some (.ref ms), some (.int (c : Int)), some (.ref rl), v6, v7, none]) ∧ H' rl = some (.lst (((mates (tabOf gs m bs) M c).take j).map nV)))
      ⟨Kx.refl _ _, ⟨none, none, rfl⟩, hrl1⟩ (fun j σ H' _ q => SqL.of (q.1 _ _ nrr hrr1)) ?_ ?_⟩
    · rintro j x σ H2 hx ⟨K2, ⟨v6, v7, rfl⟩, hrl2⟩
      have hj := (List.getElem?_eq_some_iff.mp hx).1
      rw [List.length_map, resid_len] at hj
      obtain ⟨y, hy, rfl⟩ := map_of hx
      have S2 : Same H H2 := fun b' o e => K2 _ _ (ne_of_none e hrl) (S01 _ _ e)
      have hyT : y ∈ (tabOf gs m bs).getD c [] := by rw [hrow]; exact mem_get hy
      refine ⟨_, rfl, ms, rfl, ⟨_, SqL.of (S2 _ _ hms)⟩, fun D hD => lc_sel (a := ms) (xs := M.map nV) (fun i : Nat => (M[i]?).bind fun o => if (decide (o ≠ c) && decide (y ∈ (tabOf gs m bs).getD o [])) = true then some (nV o) else none) (SqL.of (S2 _ _ hms)) hD (by rw [List.length_map]; omega) ?_ ?_⟩
      · rintro i z H3 Q3 hz S3 q
        obtain ⟨o, ho, rfl⟩ := nmap_of hz
        have q5 := q H3 (Same.refl H3)
        rw [ho] at q5
        have q5 : Q3 (if (decide (o ≠ c) && decide (y ∈ (tabOf gs m bs).getD o [])) = true then some (nV o) else none) H3 := q5
        refine ⟨rfl, _, rfl, _, rfl, rfl, _, rfl, ?_⟩
        by_cases e : o = c
        · refine iteFb (by rw [e]; show (!decide (V.int (c : Int) = V.int (c : Int))) = false; rw [decide_eq_true rfl]; rfl) ?_
          rw [decide_eq_false (fun z => z e)] at q5
          exact iteF q5
        · refine iteTb (by show (!decide (V.int (o : Int) = V.int (c : Int))) = true; rw [decide_eq_false (fun z => e (by have := V.int.inj z; omega))]; rfl) ?_
          have ocl := hin o (mem_get ho)
          have eo := List.getElem?_eq_getElem ocl
          have orow := tab_row (gs := gs) (m := m) eo
          have S23 := S2.trans S3
          refine ⟨_, rfl, _, rfl, _, rfl, _, rfl, _, rfl, b, _, _, _, rfl, rfl, SqL.of (S23 _ _ hb), at_map eo, ?_⟩
          refine ⟨g, gs, m, bs[o], rfl, S23 _ _ hg, okG, h1, h2, fun u' rr' H4 hrr' S4 hu4 hrr4 => ?_⟩
          refine ⟨u', _, _, .ref rr', rfl, rfl, SqT.of hu4, atI_nat (j := 1) rfl, rr', _, rfl, .inl (SqL.of hrr4), rfl, flat_ints _, _, rfl, ?_⟩
          have q6 := q H4 S4
          rw [ho] at q6
          have q6 : Q3 (if (decide (o ≠ c) && decide (y ∈ (tabOf gs m bs).getD o [])) = true then some (nV o) else none) H4 := q6
          rw [decide_eq_true e, Bool.true_and, orow] at q6
          show if inV (V.int y) ((resid gs m bs[o]).map V.int) = true then _ else _
          rw [inV_int]
          by_cases hm : y ∈ resid gs m bs[o]
          · rw [decide_eq_true hm] at q6 ⊢
            exact iteT ⟨_, rfl, q6⟩
          · rw [decide_eq_false hm] at q6 ⊢
            exact iteF q6
      · rintro H3 S3 h3
        rw [List.length_map, sel_filter M (fun o => decide (o ≠ c) && decide (y ∈ (tabOf gs m bs).getD o [])) nV _ (Nat.le_refl _), List.take_length] at h3
        have h3 : H3 D = some (.lst ((near (tabOf gs m bs) M c y).map nV)) := h3
        have hne2 := hne y hyT
        have hrl3 := S3 _ _ hrl2
        obtain ⟨n0, tl0, hnear⟩ := List.exists_cons_of_ne_nil hne2
        rw [hnear] at h3
        refine ⟨_, rfl, .inl ⟨rfl, _, SqL.of hrl3⟩, _, rfl, D, _, _, nV n0, rfl, rfl, SqL.of h3, atI_nat (j := 0) rfl, rl, _, _, rfl, rfl, hrl3, ?_, K2.trans ((Kx.of S3).trans Kx.upd), ⟨_, _, rfl⟩, ?_⟩
        · rw [List.length_map, List.length_take]
          exact small1000 (by omega)
        · have hmj : (mates (tabOf gs m bs) M c)[j]? = some n0 := by
            unfold mates
            rw [hrow, List.getElem?_map, hy]
            show some ((near (tabOf gs m bs) M c y).headD 0) = _
            rw [hnear]
            rfl
          rw [upd_same, List.take_add_one, hmj, List.map_append]
          rfl
    · rintro σ H2 ⟨K2, ⟨v6, v7, rfl⟩, hrl2⟩
      rw [List.length_map, resid_len, List.take_of_length_le (by omega)] at hrl2
      have S2 : Same H H2 := fun b' o e => K2 _ _ (ne_of_none e hrl) (S01 _ _ e)
      exact ⟨_, rfl, rl, _, rfl, .inl ⟨SqL.of hrl2, fun q hq => k q _ (S2.free hq) (S2.trans (same_new hq)) upd_same⟩⟩
end
end RS
namespace RS
open PySem L2
/-! ### what the law's turn keeps -/
structure LawAt (C : Addr) (H : Hp) (a L g p g2 t o : Addr) (cs gs : List Int) (tl : Tl) : Prop where
  R : RuleAt C H p g2 t o gs tl
  hL : H L = some (.lst (cs.map V.int))
  hg : H g = some (.lst (gs.map V.int))
  nL : L ≠ a
  ng : g ≠ a
  np : p ≠ a
  n2 : g2 ≠ a
  nt : t ≠ a
  no : o ≠ a
theorem RuleAt.kx {C a : Addr} {H H' : Hp} {p g t o : Addr} {gs : List Int} {tl : Tl} (R : RuleAt C H p g t o gs tl) (h : Kx a H H') (np : p ≠ a) (ng : g ≠ a) (nt : t ≠ a) (no : o ≠ a) : RuleAt C H' p g t o gs tl :=
  ⟨let ⟨dx, e⟩ := R.ob; ⟨dx, h _ _ np e⟩, h _ _ ng R.hg, h _ _ nt R.ht, h _ _ no R.ho, R.okG, R.okT⟩
theorem LawAt.kx {C : Addr} {H H' : Hp} {a L g p g2 t o : Addr} {cs gs : List Int} {tl : Tl} (B : LawAt C H a L g p g2 t o cs gs tl) (h : Kx a H H') : LawAt C H' a L g p g2 t o cs gs tl :=
  ⟨B.R.kx h B.np B.n2 B.nt B.no, h _ _ B.nL B.hL, h _ _ B.ng B.hg, B.nL, B.ng, B.np, B.n2, B.nt, B.no⟩
theorem LawAt.same {C : Addr} {H H' : Hp} {a L g p g2 t o : Addr} {cs gs : List Int} {tl : Tl} (B : LawAt C H a L g p g2 t o cs gs tl) (h : Same H H') : LawAt C H' a L g p g2 t o cs gs tl := B.kx (Kx.of h)
theorem made_same {H : Hp} {p dx : Addr} {o1 o2 : HO} (hp : H p = none) (hd : H dx = none) : Same H (upd (upd H dx o1) p o2) := fun b u e => by
  rw [upd_ne (ne_of_none e hp), upd_ne (ne_of_none e hd)]
  exact e
/-- the law's promise: a list of at most 63 ints is handed in, True comes out -/
def spLaw (K : PySem.W.Frag) : Sp := fun vs H Q _ => ∃ (a : Addr) (ns : List Int), vs = [.ref a] ∧ SqL K H a (ns.map V.int) ∧ ns.length ≤ 63 ∧ ∀ H', Q (.bl true) H'
/-- the cells: the first number (or 0), then some more -/
def cellsOf (n : Nat) (ns : List Int) : List Int := ns.getD 0 0 :: ((ns.drop 1).take (n - 1))
end RS
namespace RS
open PySem L2
theorem great_uniq {T : List (List Int)} {n : Nat} {ks us : List Nat} (a : Great T n ks) (b : Great T n us) : ks = us := by
  have na : ks.Nodup := a.pw.imp fun h => by omega
  have nb : us.Nodup := b.pw.imp fun h => by omega
  refine List.Perm.eq_of_pairwise (le := fun x y : Nat => x < y) (fun x y _ _ h h' => by omega) a.pw b.pw ((List.perm_ext_iff_of_nodup na nb).mpr fun x => ⟨b.all ks a.cl na a.lt x, a.all us b.cl nb b.lt x⟩)
/-- the union of the closed ones among some sets -/
structure UnionOf (T : List (List Int)) (n : Nat) (L : List (List Nat)) (U : List Nat) : Prop where
  pw : U.Pairwise (· < ·)
  lt : ∀ x ∈ U, x < n
  mem : ∀ x, x ∈ U ↔ ∃ M ∈ L, ClosedS T M ∧ x ∈ M
theorem UnionOf.len {T : List (List Int)} {n : Nat} {L : List (List Nat)} {U : List Nat} (h : UnionOf T n L U) : U.length ≤ n := by
  have hn : U.Nodup := h.pw.imp fun h => by omega
  have := sum_sub (fun _ => 1) (M := U) (ks := List.range n) hn fun x hx => List.mem_range.mpr (h.lt x hx)
  rwa [ones, ones, List.length_range] at this
theorem UnionOf.great {T : List (List Int)} {n : Nat} {U : List Nat} (h : UnionOf T n (subs n) U) : Great T n U := by
  refine ⟨h.pw, h.lt, fun c hc => ?_, fun M hcl hn hlt x hx => ?_⟩
  · obtain ⟨M, hM, hcl, hcM⟩ := (h.mem c).mp hc
    exact fits_sub ((subs_ok n M hM).1.imp fun h => by omega) (fun y hy => (h.mem y).mpr ⟨M, hM, hcl, hy⟩) (hcl c hcM)
  · have hs : ∀ y, y ∈ (List.range n).filter (fun y => decide (y ∈ M)) ↔ y ∈ M := fun y => by
      rw [List.mem_filter, decide_eq_true_iff, List.mem_range]
      exact ⟨fun h => h.2, fun h => ⟨hlt y h, h⟩⟩
    refine (h.mem x).mpr ⟨(List.range n).filter (fun y => decide (y ∈ M)), subs_all n _ (List.pairwise_lt_range.sublist List.filter_sublist) (fun y hy => List.mem_range.mp (List.mem_filter.mp hy).1), fun c hc => ?_, (hs x).mpr hx⟩
    exact fits_sub hn (fun y hy => (hs y).mpr hy) (hcl c ((hs c).mp hc))
def klN : List Str := ["_law_script", "_law_cell", "_law_source", "_law_gaps", "_law_count", "_law_rule", "_law_starts_here", "_law_union", "_law_part", "_law_told", "_law_due", "_law_client"]
theorem scLaw : FnScope klN ["_law_script"] (defScope s_law) := ⟨rfl, rfl, rfl, by decide +kernel, rfl, by decide +kernel, by decide +kernel⟩
theorem RuleAt.off {C q : Addr} {H : Hp} {p g t o : Addr} {gs : List Int} {tl : Tl} {u : HO} (R : RuleAt C H p g t o gs tl) (np : p ≠ q) (ng : g ≠ q) (nt : t ≠ q) (no : o ≠ q) : RuleAt C (upd H q u) p g t o gs tl :=
  R.kx (a := q) (fun b o' nb e => by rw [upd_ne nb]; exact e) np ng nt no
section
variable {P : Program} {w : World} {K : PySem.W.Frag} {mg : Str → Option Value} {base : Heap}
theorem ok_law {f C fI fCell fSrc fRep fSts fSub fClo fLPa fBlk fIsC : Addr} {fd fdI fdCell fdSrc fdRep fdSts fdSub fdClo fdLPa fdBlk fdIsC : FuncData} (F : Fun K "law" "law" s_law f fd) (T : Txt K mg C) (M : Mk K C fI) (GI : FnOk P w K mg base CX0 3 fI fdI ["self", "gaps", "tail"] (spInit C)) (bI : Binds K fdI ["self", "gaps", "tail"] [])
    (GCell : FnOk P w K mg base CX0 1 fCell fdCell ["_law_script", "_law_index"] (spCell K)) (bCell : Binds K fdCell ["_law_script", "_law_index"] []) (mCell : mg "_law_cell_at" = some (.ref fCell)) (kCell : PySem.W.keepIn K (.ref fCell) = true)
    (GSrc : FnOk P w K mg base CX0 1 fSrc fdSrc ["_law_cell"] spSrcOf) (bSrc : Binds K fdSrc ["_law_cell"] []) (mSrc : mg "_law_source_of" = some (.ref fSrc)) (kSrc : PySem.W.keepIn K (.ref fSrc) = true)
    (GRep : FnOk P w K mg base CX0 3 fRep fdRep ["_law_source"] spRep) (bRep : Binds K fdRep ["_law_source"] []) (mRep : mg "_law_repeating" = some (.ref fRep)) (kRep : PySem.W.keepIn K (.ref fRep) = true)
    (GSts : FnOk P w K mg base CX0 3 fSts fdSts ["_law_source", "_law_gaps", "_law_count", "_law_most"] spSts) (bSts : Binds K fdSts ["_law_source", "_law_gaps", "_law_count", "_law_most"] []) (mSts : mg "_law_starts" = some (.ref fSts)) (kSts : PySem.W.keepIn K (.ref fSts) = true)
    (GSub : FnOk P w K mg base CX0 1 fSub fdSub ["_law_size"] spSub) (bSub : Binds K fdSub ["_law_size"] []) (mSub : mg "_law_subsets" = some (.ref fSub)) (kSub : PySem.W.keepIn K (.ref fSub) = true)
    (GClo : FnOk P w K mg base CX0 2 fClo fdClo ["_law_gaps", "_law_count", "_law_starts_here", "_law_members"] spClo) (bClo : Binds K fdClo ["_law_gaps", "_law_count", "_law_starts_here", "_law_members"] []) (mClo : mg "_law_closed" = some (.ref fClo)) (kClo : PySem.W.keepIn K (.ref fClo) = true)
    (GLPa : FnOk P w K mg base CX0 2 fLPa fdLPa ["_law_gaps", "_law_count", "_law_starts_here", "_law_members", "_law_client"] spLPa) (bLPa : Binds K fdLPa ["_law_gaps", "_law_count", "_law_starts_here", "_law_members", "_law_client"] []) (mLPa : mg "_law_partners" = some (.ref fLPa)) (kLPa : PySem.W.keepIn K (.ref fLPa) = true)
    (GBlk : FnOk P w K mg base CX0 6 fBlk fdBlk ["rule", "starts"] (spBlk K C)) (bBlk : Binds K fdBlk ["rule", "starts"] []) (mBlk : mg "blocked_clients" = some (.ref fBlk)) (kBlk : PySem.W.keepIn K (.ref fBlk) = true)
    (GIsC : FnOk P w K mg base CX0 6 fIsC fdIsC ["rule", "starts", "value"] (spIsC C)) (bIsC : Binds K fdIsC ["rule", "starts", "value"] []) (mIsC : mg "is_closed" = some (.ref fIsC)) (kIsC : PySem.W.keepIn K (.ref fIsC) = true) :
    FnOk P w K mg base CX0 7 f fd ["_law_script"] (spLaw K) := by
  refine F.ok scLaw (fun vs H Q E h => ?_) (fun cdv A outer s H vs Q E hr h => ?_)
  · obtain ⟨a, ns, rfl, _⟩ := h
    rfl
  · obtain ⟨sc, ns, rfl, hs, hn63, k⟩ := h
    have hr1 := hr.mono (show 1 ≤ 6 by decide)
    have hr2 := hr.mono (show 2 ≤ 6 by decide)
    have hr3 := hr.mono (show 3 ≤ 6 by decide)
    have hr4 := hr.mono (show 4 ≤ 6 by decide)
    refine ⟨_, (pss_cons (ps_for PassesOwn.never rfl (pi_list (pe_op op_cat (pe_lst (pa_cons (pe_call GCell hr1 rfl mCell kCell bCell .nil pass0 (pa_cons (pv 0) (pa_cons pe_int pa_nil))) pa_nil)) (pe_slice sl_list (pv 0) (po_some pe_int) (po_some pe_int)))) (pg_name (i := 1) scLaw.nd rfl (Or.inl rfl)) (pss_cons (ps_set (i := 2) scLaw.nd rfl (Or.inl rfl) (pe_call GSrc hr1 rfl mSrc kSrc bSrc .nil pass0 (pa_cons (pv 1) pa_nil))) (pss_cons (ps_asg (pe_call GRep hr3 rfl mRep kRep bRep .nil pass0 (pa_cons (pv 2) pa_nil)) (pg_tup rfl (pgs_cons (pg_name (i := 3) scLaw.nd rfl (Or.inr rfl)) (pgs_cons (pg_name (i := 4) scLaw.nd rfl (Or.inr rfl)) pgs_nil)))) (pss_cons (ps_set (i := 5) scLaw.nd rfl (Or.inl rfl) (pe_make M GI hr4 rfl T.mgC bI .nil pass0 (pa_cons (pv 3) (pa_cons (pe_tup (pa_cons pe_str (pa_cons (pv 4) pa_nil))) pa_nil)))) (pss_cons (ps_set (i := 6) scLaw.nd rfl (Or.inr rfl) (pe_call GSts hr3 rfl mSts kSts bSts .nil pass0 (pa_cons (pv 2) (pa_cons (pv 3) (pa_cons (pv 4) (pa_cons pe_int pa_nil)))))) (pss_cons (ps_set (i := 7) scLaw.nd rfl (Or.inr rfl) (pe_lst pa_nil)) (pss_cons (ps_for PassesOwn.never rfl (pi_list (pe_call GSub hr1 rfl mSub kSub bSub .nil pass0 (pa_cons (pe_callB call_len_seq (by rfl) T.len (by decide +kernel) (pa_cons (pv 6) pa_nil)) pa_nil))) (pg_name (i := 8) scLaw.nd rfl (Or.inl rfl)) (pss_one (ps_if (pt_val (pe_call GClo hr2 rfl mClo kClo bClo .nil pass0 (pa_cons (pv 3) (pa_cons (pv 4) (pa_cons (pv 6) (pa_cons (pv 8) pa_nil)))))) (pss_one (ps_set (i := 7) scLaw.nd rfl (Or.inr rfl) (pe_callB (cr_sortedSet rfl) (by rfl) T.sorted (by decide +kernel) (pa_cons (pe_callTy (cr_setL rfl) (by rfl) T.set (by decide +kernel) (pa_cons (pe_op op_cat (pv 7) (pv 8)) pa_nil)) pa_nil)))) pss_nil))) (pss_cons (ps_set (i := 9) scLaw.nd rfl (Or.inl rfl) (pe_call GBlk hr rfl mBlk kBlk bBlk .nil pass0 (pa_cons (pv 5) (pa_cons (pv 6) pa_nil)))) (pss_cons (ps_setLc (i := 10) (own := [("_law_client", 11)]) (g := gName 11) (tt := tYes) (by rfl) scLaw.nd rfl rfl (sw_true rfl rfl rfl (by decide +kernel)) (pi_list (pv 7)) (blkOk_by (own := [("_law_client", 11)]) (N := klN) (sc := (defScope s_law)) (by decide +kernel)) (fun _ _ _ _ _ => (pg_name (i := 11) scLaw.nd rfl (Or.inl rfl))) (fun _ _ _ _ _ => pts_nil) (fun _ _ _ _ _ => (pe_tup (pa_cons (pv 11) (pa_cons (pe_call GLPa hr2 rfl mLPa kLPa bLPa .nil pass0 (pa_cons (pv 3) (pa_cons (pv 4) (pa_cons (pv 6) (pa_cons (pv 7) (pa_cons (pv 11) pa_nil)))))) pa_nil))))) (pss_cons (ps_if (PW.pt (pw_or (pt_cmpR (op_neD hr.units) (pv 9) (pv 10) (nomark _)) (pw_or1 (pt_not (pt_val (pe_call GIsC hr rfl mIsC kIsC bIsC .nil pass0 (pa_cons (pv 5) (pa_cons (pv 6) (pa_cons (pv 7) pa_nil))))))))) (pss_one (ps_ret pe_bl)) pss_nil) (pss_cons (ps_expr (pe_bm PySem.F.plainAttrs_list PySem.F.slot_list_append PySem.F.type_list_append mt_append (pv 9) (pa_cons pe_non pa_nil))) (pss_one (ps_if (pt_cmpR (op_neD hr.units) (pe_call GBlk hr rfl mBlk kBlk bBlk .nil pass0 (pa_cons (pv 5) (pa_cons (pv 6) pa_nil))) (pv 10) (nomark _)) (pss_one (ps_ret pe_bl)) pss_nil))))))))))))) (pss_one (ps_ret pe_bl))), ?_⟩
    -- the cells
    refine ⟨_, rfl, sc, ns, rfl, hs, (by show 1 ≤ sizeLine; decide), fun l1 hl1 => ?_⟩
    refine ⟨_, rfl, _, rfl, _, rfl, sc, _, rfl, (same_new hl1).seq hs, fun l2 hl2 => ?_⟩
    have hl1' := same_new (o := .lst (cutV (ns.map V.int) (some 1) (some 3))) hl2 _ _ (upd_same (H := H) (a := l1) (o := .lst [V.int (ns.getD 0 0)]))
    refine ⟨l1, l2, _, _, rfl, rfl, hl1', upd_same, ?_, fun L hL => ?_⟩
    · have := cutV_length (ns.map V.int) (some 1) (some 3)
      rw [List.length_map] at this
      exact Nat.le_of_lt (small1000 (by show 1 + _ ≤ 1000; omega))
    have ecs : [V.int (ns.getD 0 0)] ++ cutV (ns.map V.int) (some 1) (some 3) = (cellsOf 3 ns).map V.int := by
      rw [show (some (1 : Int)) = some ((1 : Nat) : Int) from rfl, show (some (3 : Int)) = some ((3 : Nat) : Int) from rfl, cut_mid]
      unfold cellsOf
      rw [List.map_cons, List.map_take, List.map_drop]
      rfl
    rw [ecs]
    generalize cellsOf 3 ns = cs
    refine ⟨L, rfl, ⟨_, SqL.of upd_same⟩, for_list (a := L) (xs := cs.map V.int) (fun i σ H' => (∃ v1 v2 v3 v4 v5 v6 v7 v8 v9 v10, σ = [some (.ref sc), v1, v2, v3, v4, v5, v6, v7, v8, v9, v10, none]) ∧ H' L = some (.lst (cs.map V.int))) ⟨⟨_, _, _, _, _, _, _, _, _, _, rfl⟩, upd_same⟩ (fun i σ H' _ p => SqL.of p.2) ?_ (fun σ H' p => k H')⟩
    rintro i x σ H0 hx ⟨⟨v1, v2, v3, v4, v5, v6, v7, v8, v9, v10, rfl⟩, hL0⟩
    obtain ⟨c, _, rfl⟩ := map_of hx
    clear hx
    refine ⟨_, rfl, c, rfl, fun a H1 ha S1 R1 => ?_⟩
    have nLa : L ≠ a := ne_of_none hL0 ha
    have hL1 := S1 _ _ hL0
    refine ⟨_, rfl, a, 0, rfl, R1, by omega, fun u g gs m H2 hg0 hu hg okG hm1 hm2 kx2 R2 => ?_⟩
    have nga : g ≠ a := (R1.new hg0).symm
    have hL2 := kx2 _ _ nLa hL1
    clear kx2 R1 hL1 hL0 ha S1
    refine ⟨u, _, rfl, SqT.of hu, rfl, _, _, rfl, _, _, rfl, rfl, ?_⟩
    -- the rule
    refine ⟨_, rfl, _, rfl, (by show 2 ≤ sizeLine; decide), fun t0 ht0 => fun p dx hp hdx _ => ?_⟩
    have St := same_new (o := .tup [V.str "repeat", .int (m : Int)]) ht0
    have ht1 : (upd H2 t0 (.tup [V.str "repeat", .int (m : Int)])) t0 = some (.tup (Tl.rep m).vs) := upd_same
    have hg2' := St _ _ hg
    have hL2' := St _ _ hL2
    have R2' := R2.mono St
    generalize (upd H2 t0 (.tup [V.str "repeat", .int (m : Int)])) = H3 at hp hdx ht1 hg2' hL2' R2' ⊢
    have Sm : Same H3 (upd (upd H3 dx (.own p)) p (.ins C dx [])) := made_same hp hdx
    refine ⟨p, dx, g, t0, gs, .rep m, rfl, upd_same, Sm _ _ hg2', Sm _ _ ht1, okG, ⟨hm1, hm2⟩, fun g2 o H4 hg2 ho kp R4 => ⟨rfl, ?_⟩⟩
    have S4 : Same H3 H4 := fun b u e => kp b u (Sm _ _ e) (ne_of_none e hp)
    have Ra := R2'.mono Sm
    have B4 : LawAt C H4 a L g p g2 t0 o cs gs (.rep m) := by
      obtain ⟨s0, s1, s2, hsa, _⟩ := R2'.ex
      exact ⟨R4, S4 _ _ hL2', S4 _ _ hg2', nLa, nga, (R2'.new hp).symm, (Ra.new hg2).symm, ne_of ht1 hsa (by intro z; cases z), (Ra.new ho).symm⟩
    have R4s := R2'.mono S4
    clear hg ht1 nga hL2 R2 Sm hp hdx hg2 ho kp R4 S4 Ra nLa hu hg0 hg2' hL2' R2' St ht0
    -- the starts
    refine ⟨_, rfl, _, rfl, _, rfl, a, g, gs, m, 7, 0 + 30, rfl, R4s, by omega, B4.ng, B4.hg, okG, hm1, hm2, by decide, by decide, fun b bs H5 hb0 hb hb1 hb7 kx5 R5 => ?_⟩
    have B5 := B4.kx kx5
    clear B4 R4s kx5 hb0 R5
    obtain ⟨hR, hL5, hg5, _⟩ := B5
    -- the union
    refine ⟨by show 0 ≤ sizeLine; decide, fun u0 hu0 => ?_⟩
    have S6 := same_new (o := .lst []) hu0
    have hu6 := upd_same (H := H5) (a := u0) (o := .lst [])
    generalize (upd H5 u0 (.lst [])) = H6 at S6 hu6 ⊢
    have hR6 := hR.mono S6
    have hL6 := S6 _ _ hL5
    have hg6 := S6 _ _ hg5
    have hb6 := S6 _ _ hb
    clear hR hL5 hg5 hb S6 hu0
    have hTl : (tabOf gs m bs).length = bs.length := by unfold tabOf; rw [List.length_map]
    refine ⟨_, rfl, b, _, rfl, .inl (SqL.of hb6), bs.length, by rw [List.length_map]; rfl, by omega, fun q ts H7 hq S7 hq7 hLs => ?_⟩
    have hsl := hLs.1
    rw [List.length_map, subs_len] at hsl
    refine ⟨q, rfl, ⟨_, SqL.of hq7⟩, for_list (a := q) (xs := ts.map V.ref) (fun i σ H' => Same H7 H' ∧ ∃ un U v8, σ = [some (.ref sc), some (.int c), some (.ref a), some (.ref g), some (.int (m : Int)), some (.ref p), some (.ref b), some (.ref un), v8, v9, v10, none] ∧ H' un = some (.lst (U.map nV)) ∧ UnionOf (tabOf gs m bs) bs.length ((subs bs.length).take i) U)
      ⟨Same.refl _, u0, [], v8, rfl, S7 _ _ hu6, ⟨List.Pairwise.nil, (fun x hx => nomatch hx), fun x => by simp⟩⟩ (fun i σ H' _ z => SqL.of (z.1 _ _ hq7)) ?_ ?_⟩
    · rintro i x σ H8 hx ⟨S8, un, U, w8, rfl, hun, hU⟩
      have hi := (List.getElem?_eq_some_iff.mp hx).1
      rw [List.length_map] at hi
      have hi2 : i < (subs bs.length).length := by rw [subs_len]; omega
      have eM := List.getElem?_eq_getElem hi2
      generalize hMM : (subs bs.length)[i] = MM at eM
      obtain ⟨pp, hpp, hpl⟩ := hLs.2 i (cst MM) (by rw [List.getElem?_map, eM]; rfl)
      have ex : x = .ref pp := by
        rw [List.getElem?_map, hpp] at hx
        exact (Option.some.inj hx).symm
      subst ex
      have hM := subs_ok _ _ (List.mem_of_getElem? eM)
      have S78 := S7.trans S8
      have hp8 : H8 pp = some (.lst (MM.map nV)) := by rw [S8 _ _ hpl, nV_ints]; rfl
      refine ⟨_, rfl, _, rfl, _, rfl, _, rfl, g, b, pp, gs, m, bs, MM, rfl, S78 _ _ hg6, okG, hm1, hm2, S78 _ _ hb6, hp8, hM.2.1, by have := hM.2.2; omega, fun r H9 hr9 S9 => ⟨r, rfl, ?_⟩⟩
      have hun9 := S9 _ _ hun
      have hp9 := S9 _ _ hp8
      have hUl := hU.len
      cases r with
      | false =>
        refine iteF ⟨S8.trans S9, un, U, _, rfl, hun9, hU.pw, hU.lt, fun y => ?_⟩
        rw [List.take_add_one, eM, hU.mem y]
        constructor
        · rintro ⟨N, hN, r⟩
          exact ⟨N, List.mem_append_left _ hN, r⟩
        · rintro ⟨N, hN, r⟩
          rcases List.mem_append.mp hN with h | h
          · exact ⟨N, h, r⟩
          · rw [show N = MM from by simpa using h] at r
            exact absurd (hr9.mpr r.1) (by decide)
      | true =>
        have hcl := hr9.mp rfl
        refine iteT ?_
        refine ⟨_, rfl, _, rfl, un, pp, _, _, rfl, rfl, hun9, hp9, ?_, fun l hl => ?_⟩
        · rw [List.length_map, List.length_map]
          exact Nat.le_of_lt (small1000 (by have := hM.2.2; omega))
        have S10 := same_new (o := .lst (U.map nV ++ MM.map nV)) hl
        refine ⟨l, cst (U ++ MM), rfl, SqL.of (by rw [upd_same, ← List.map_append, nV_ints]; rfl), by unfold cst; rw [List.length_map, List.length_append]; have := hM.2.2; omega, fun z n hz hn => ?_⟩
        unfold cst at hn
        rw [List.length_map, List.length_append] at hn
        refine ⟨z, _, _, rfl, upd_same, by have := hM.2.2; omega, fun ns2 z2 h1 h2 h3 hz2 => ?_⟩
        have S12 := (S10.trans (same_new hz)).trans (same_new (o := .lst (ns2.map V.int)) hz2)
        have hV : ((List.range bs.length).filter fun y => decide (y ∈ U) || decide (y ∈ MM)).Pairwise (· < ·) := List.pairwise_lt_range.sublist List.filter_sublist
        have hVm : ∀ y, y ∈ ((List.range bs.length).filter fun y => decide (y ∈ U) || decide (y ∈ MM)) ↔ y ∈ U ∨ y ∈ MM := fun y => by
          rw [List.mem_filter, List.mem_range, Bool.or_eq_true, decide_eq_true_iff, decide_eq_true_iff]
          refine ⟨fun h => h.2, fun h => ⟨?_, h⟩⟩
          rcases h with h | h
          · exact hU.lt y h
          · exact hM.2.1 y h
        have en : ns2 = ((List.range bs.length).filter fun y => decide (y ∈ U) || decide (y ∈ MM)).map fun n : Nat => (n : Int) := asc_eq h1 hV fun y => by
          rw [h2 y, decide_eq_true_iff]
          unfold cst
          rw [List.mem_map, List.mem_map]
          constructor
          · rintro ⟨x, hx, e⟩
            exact ⟨x, (hVm x).mpr (List.mem_append.mp hx), e⟩
          · rintro ⟨x, hx, e⟩
            exact ⟨x, List.mem_append.mpr ((hVm x).mp hx), e⟩
        refine ⟨(S8.trans S9).trans S12, z2, _, _, rfl, by rw [upd_same, en, ← nV_ints], hV, fun y hy => List.mem_range.mp (List.mem_filter.mp hy).1, fun y => ?_⟩
        rw [hVm y, List.take_add_one, eM, hU.mem y]
        constructor
        · rintro (⟨N, hN, r⟩ | h)
          · exact ⟨N, List.mem_append_left _ hN, r⟩
          · exact ⟨MM, List.mem_append_right _ (by simp), hcl, h⟩
        · rintro ⟨N, hN, r⟩
          rcases List.mem_append.mp hN with h | h
          · exact .inl ⟨N, h, r⟩
          · rw [show N = MM from by simpa using h] at r
            exact .inr r.2
    rintro σ H8 ⟨S8, un, U, w8, rfl, hun, hU⟩
    rw [List.length_map, List.take_of_length_le (by rw [subs_len]; omega)] at hU
    have hG := hU.great
    have S78 := S7.trans S8
    have hR8 := hR6.mono S78
    have hL8 := S78 _ _ hL6
    have hg8 := S78 _ _ hg6
    have hb8 := S78 _ _ hb6
    have hUl := hU.len
    clear hR6 hL6 hg6 hb6 S78 S7 S8 hLs hq7 hu6 hsl hq
    -- what is told
    refine ⟨_, rfl, _, rfl, p, g2, t0, o, b, gs, m, bs, rfl, hR8, hb8, hb1, by omega, fun ks q rs H9 hq S9 hks hq9 hP9 => ?_⟩
    have eks := great_uniq hks hG
    subst eks
    have hR9 := hR8.mono S9
    have hL9 := S9 _ _ hL8
    have hg9 := S9 _ _ hg8
    have hb9 := S9 _ _ hb8
    have hun9 := S9 _ _ hun
    have nLq : L ≠ q := ne_of_none hL8 hq
    have nbq : b ≠ q := ne_of_none hb8 hq
    obtain ⟨dx8, hob8⟩ := hR8.ob
    have npq : p ≠ q := ne_of_none hob8 hq
    have ngq : g2 ≠ q := ne_of_none hR8.hg hq
    have ntq : t0 ≠ q := ne_of_none hR8.ht hq
    have noq : o ≠ q := ne_of_none hR8.ho hq
    clear hL8 hg8 hb8 hun S9 hq
    have hnd : ks.Nodup := hG.pw.imp fun h => by omega
    -- what is due
    refine ⟨_, rfl, un, rfl, ⟨_, SqL.of hun9⟩, fun D hD => lc_list (a := un) (xs := ks.map nV) (fun i H' => Same H9 H' ∧ ∃ rs2, H' D = some (.lst rs2) ∧ PrT H' rs2 ((blkOf (tabOf gs m bs) ks).take i)) ⟨same_app hD (fun _ _ e => e), [], upd_same, .nil⟩ (fun i H' _ z => z.1.seq (SqL.of hun9)) (fun i x H10 hx z => ?_) (fun H10 z => ?_)⟩
    · obtain ⟨S10, rs2, hrs, hP⟩ := z
      obtain ⟨cl, hc, rfl⟩ := nmap_of hx
      have hcm := mem_get hc
      have hcl := hG.lt cl hcm
      have eb := List.getElem?_eq_getElem hcl
      have hrow : ((tabOf gs m bs).getD cl []).Nodup := by
        rw [tab_row eb]
        exact resid_nodup okG hm1 hm2 _
      refine ⟨rfl, yes_t (iteT ?_)⟩
      refine ⟨_, rfl, _, rfl, _, rfl, _, rfl, _, rfl, _, rfl, g, b, un, gs, m, bs, ks, cl, rfl, S10 _ _ hg9, okG, hm1, hm2, S10 _ _ hb9, S10 _ _ hun9, hG.lt, by omega, hcl, fun r hr => near_ne hnd hcm (hG.cl cl hcm) hrow hr, fun pt H11 hpt S11 hpt11 => ?_⟩
      refine ⟨by show 2 ≤ sizeLine; decide, fun t2 ht2 => ?_⟩
      have S12 := S11.trans (same_new (o := .tup [V.int (cl : Int), .ref pt]) ht2)
      have hD12 := S12 _ _ hrs
      have hlen := hP.len
      refine ⟨rs2, hD12, small_line (by rw [hlen, List.length_take]; unfold blkOf; rw [List.length_map]; omega), same_app hD (S10.trans S12), _, upd_same, ?_⟩
      have hgi : (blkOf (tabOf gs m bs) ks)[i]? = some (cl, mates (tabOf gs m bs) ks cl) := by
        unfold blkOf
        rw [List.getElem?_map, hc]
        rfl
      rw [List.take_add_one, hgi]
      exact ((hP.mono S12).snoc upd_same (same_new ht2 _ _ hpt11)).off hD12
    obtain ⟨S10, rs2, hrs, hP⟩ := z
    rw [List.length_map, show ks.length = (blkOf (tabOf gs m bs) ks).length by unfold blkOf; rw [List.length_map], List.take_length] at hP
    have nDq : D ≠ q := fun z => by rw [z, hq9] at hD; cases hD
    have hR10 := hR9.mono S10
    have hL10 := S10 _ _ hL9
    have hb10 := S10 _ _ hb9
    have hun10 := S10 _ _ hun9
    have hq10 := S10 _ _ hq9
    have hP10 := hP9.mono S10
    clear hR9 hL9 hg9 hb9 hun9 hq9 hP9 S10 hD
    -- equal, and closed
    refine ⟨_, rfl, _, rfl, _, _, .lst (SqL.of hq10) hP10.dp, .lst (SqL.of hrs) hP.dp, prD_shaped _, prD_shaped _, _, rfl, iteFb ?_ ?_⟩
    · rw [show PyData.eqv (.list ((blkOf (tabOf gs m bs) ks).map prD)) (.list ((blkOf (tabOf gs m bs) ks).map prD)) = true from prD_refl _]
      rfl
    refine ⟨_, rfl, _, rfl, _, rfl, p, g2, t0, o, b, un, gs, m, bs, ks, rfl, hR10, hb10, hb1, by omega, hun10, hG.pw, hG.lt, by omega, fun r H11 hr11 S11 => ?_⟩
    obtain rfl := hr11.mpr hG.cl
    refine ⟨true, rfl, iteF ?_⟩
    have hq11 := S11 _ _ hq10
    have hlr := hP10.len
    refine ⟨_, rfl, .inl ⟨rfl, _, SqL.of hq11⟩, q, _, _, rfl, rfl, hq11, ?_, ?_⟩
    · rw [hlr]
      unfold blkOf
      rw [List.length_map]
      exact small1000 (by omega)
    have hR12 := (hR10.mono S11).off (u := .lst (rs ++ [V.non])) npq ngq ntq noq
    have hL12 : upd H11 q (.lst (rs ++ [V.non])) L = some (.lst (cs.map V.int)) := by rw [upd_ne nLq]; exact S11 _ _ hL10
    have hb12 : upd H11 q (.lst (rs ++ [V.non])) b = some (.lst (bs.map V.int)) := by rw [upd_ne nbq]; exact S11 _ _ hb10
    have hD12 : upd H11 q (.lst (rs ++ [V.non])) D = some (.lst rs2) := by rw [upd_ne nDq]; exact S11 _ _ hrs
    have hP12 := (hP.mono S11).off (o := .lst (rs ++ [V.non])) hq11
    generalize (upd H11 q (.lst (rs ++ [V.non]))) = H12 at hR12 hL12 hb12 hD12 hP12 ⊢
    refine ⟨_, rfl, _, rfl, p, g2, t0, o, b, gs, m, bs, rfl, hR12, hb12, hb1, by omega, fun ks2 q2 rs3 H13 _ S13 hks2 hq13 hP13 => ?_⟩
    have eks := great_uniq hks2 hG
    subst eks
    refine ⟨_, rfl, _, _, .lst (SqL.of hq13) hP13.dp, .lst (SqL.of (S13 _ _ hD12)) (hP12.mono S13).dp, prD_shaped _, prD_shaped _, _, rfl, iteFb ?_ ?_⟩
    · rw [show PyData.eqv (.list ((blkOf (tabOf gs m bs) ks2).map prD)) (.list ((blkOf (tabOf gs m bs) ks2).map prD)) = true from prD_refl _]
      rfl
    exact ⟨⟨_, _, _, _, _, _, _, _, _, _, rfl⟩, S13 _ _ hL12⟩
end
end RS
namespace RS
open PySem L2
/-! ### what the top has written -/
theorem all_mk {l : PySem.W.OpenLaw} {w : World} {K : PySem.W.Frag} {h : Heap} {mg : Str → Option Value} {fa : Addr}  (X : K.In h) (G : h.Ns mainGlobals mg) (hfa : mg "law" = some (.ref fa)) (hlong : ∃ t, mg "_LONGEST_GAP" = some (.int 1000000000000 t))
    {fa0 : Addr} {oda0 ana0 : Option Addr} {sla0 : Array (Option Value)} {oca0 kVa0 dca0 pma0 cta0 : Value}
    {cda0 : Value}
    {fa1 : Addr} {oda1 ana1 : Option Addr} {sla1 : Array (Option Value)} {oca1 kVa1 dca1 pma1 cta1 : Value}
    {cda1 : Value}
    {fa2 : Addr} {oda2 ana2 : Option Addr} {sla2 : Array (Option Value)} {oca2 kVa2 dca2 pma2 cta2 : Value}
    {cda2 : Value}
    {fa3 : Addr} {oda3 ana3 : Option Addr} {sla3 : Array (Option Value)} {oca3 kVa3 dca3 pma3 cta3 : Value}
    {cda3 : Value}
    {fa4 : Addr} {oda4 ana4 : Option Addr} {sla4 : Array (Option Value)} {oca4 kVa4 dca4 pma4 cta4 : Value}
    {cda4 : Value}
    {fr6 : Addr} {odr6 anr6 : Option Addr} {slr6 : Array (Option Value)} {ocr6 kVr6 dcr6 pmr6 ctr6 : Value}
    {cdr6 : Value}
    {fr8 : Addr} {odr8 anr8 : Option Addr} {slr8 : Array (Option Value)} {ocr8 kVr8 dcr8 pmr8 ctr8 : Value}
    {cdr8 : Value}
    {fr9 : Addr} {odr9 anr9 : Option Addr} {slr9 : Array (Option Value)} {ocr9 kVr9 dcr9 pmr9 ctr9 : Value}
    {cdr9 : Value}
    {fr10 : Addr} {odr10 anr10 : Option Addr} {slr10 : Array (Option Value)} {ocr10 kVr10 dcr10 pmr10 ctr10 : Value}
    {cdr10 : Value}
    {fa12 : Addr} {oda12 ana12 : Option Addr} {sla12 : Array (Option Value)} {oca12 kVa12 dca12 pma12 cta12 : Value}
    {cda12 : Value}
    {fa13 : Addr} {oda13 ana13 : Option Addr} {sla13 : Array (Option Value)} {oca13 kVa13 dca13 pma13 cta13 : Value}
    {cda13 : Value}
    {fa14 : Addr} {oda14 ana14 : Option Addr} {sla14 : Array (Option Value)} {oca14 kVa14 dca14 pma14 cta14 : Value}
    {cda14 : Value}
    {fa15 : Addr} {oda15 ana15 : Option Addr} {sla15 : Array (Option Value)} {oca15 kVa15 dca15 pma15 cta15 : Value}
    {cda15 : Value}
    {fa16 : Addr} {oda16 ana16 : Option Addr} {sla16 : Array (Option Value)} {oca16 kVa16 dca16 pma16 cta16 : Value}
    {cda16 : Value}
    {fa17 : Addr} {oda17 ana17 : Option Addr} {sla17 : Array (Option Value)} {oca17 kVa17 dca17 pma17 cta17 : Value}
    {cda17 : Value}
    {fa18 : Addr} {oda18 ana18 : Option Addr} {sla18 : Array (Option Value)} {oca18 kVa18 dca18 pma18 cta18 : Value}
    {cda18 : Value}
    {fa19 : Addr} {oda19 ana19 : Option Addr} {sla19 : Array (Option Value)} {oca19 kVa19 dca19 pma19 cta19 : Value}
    {cda19 : Value}
    {fa20 : Addr} {oda20 ana20 : Option Addr} {sla20 : Array (Option Value)} {oca20 kVa20 dca20 pma20 cta20 : Value}
    {cda20 : Value}
    {fa21 : Addr} {oda21 ana21 : Option Addr} {sla21 : Array (Option Value)} {oca21 kVa21 dca21 pma21 cta21 : Value}
    {cda21 : Value}
    {fa22 : Addr} {oda22 ana22 : Option Addr} {sla22 : Array (Option Value)} {oca22 kVa22 dca22 pma22 cta22 : Value}
    {cda22 : Value}
    {fa23 : Addr} {oda23 ana23 : Option Addr} {sla23 : Array (Option Value)} {oca23 kVa23 dca23 pma23 cta23 : Value}
    {cda23 : Value}
    {fa24 : Addr} {oda24 ana24 : Option Addr} {sla24 : Array (Option Value)} {oca24 kVa24 dca24 pma24 cta24 : Value}
    {cda24 : Value}
    {fa25 : Addr} {oda25 ana25 : Option Addr} {sla25 : Array (Option Value)} {oca25 kVa25 dca25 pma25 cta25 : Value}
    {cda25 : Value}
    {fa26 : Addr} {oda26 ana26 : Option Addr} {sla26 : Array (Option Value)} {oca26 kVa26 dca26 pma26 cta26 : Value}
    {cda26 : Value}
    {fa27 : Addr} {oda27 ana27 : Option Addr} {sla27 : Array (Option Value)} {oca27 kVa27 dca27 pma27 cta27 : Value}
    {cda27 : Value}
    {fa28 : Addr} {oda28 ana28 : Option Addr} {sla28 : Array (Option Value)} {oca28 kVa28 dca28 pma28 cta28 : Value}
    {cda28 : Value}
    {fa29 : Addr} {oda29 ana29 : Option Addr} {sla29 : Array (Option Value)} {oca29 kVa29 dca29 pma29 cta29 : Value}
    {cda29 : Value}
    {fa30 : Addr} {oda30 ana30 : Option Addr} {sla30 : Array (Option Value)} {oca30 kVa30 dca30 pma30 cta30 : Value}
    {cda30 : Value}
    {fa31 : Addr} {oda31 ana31 : Option Addr} {sla31 : Array (Option Value)} {oca31 kVa31 dca31 pma31 cta31 : Value}
    {cda31 : Value}
    {fa32 : Addr} {oda32 ana32 : Option Addr} {sla32 : Array (Option Value)} {oca32 kVa32 dca32 pma32 cta32 : Value}
    {cda32 : Value}
    {fa33 : Addr} {oda33 ana33 : Option Addr} {sla33 : Array (Option Value)} {oca33 kVa33 dca33 pma33 cta33 : Value}
    {cda33 : Value}
    {C : Addr}
    {tM : Tok}
    {tF : Tok}
    {tL : Tok}
    {tC : Tok}
    (Aa0 : PySem.W.nsIn K mainGlobals "law" = some (some (.ref fa0)))
    (La0 : K.lookup fa0 = some ⟨oca0, oda0, .func (PySem.W.fnOf "law" "law" (defArgs s_law) (defBody s_law) (defScope s_law) .none kVa0 dca0 pma0 ana0 cda0 cta0), sla0⟩) (Ca0 : PySem.W.codeIn K cda0 "law" = true) (Ka0 : PySem.W.keepIn K (.ref fa0) = true)
    (Aa1 : PySem.W.nsIn K mainGlobals "is_integer" = some (some (.ref fa1)))
    (La1 : K.lookup fa1 = some ⟨oca1, oda1, .func (PySem.W.fnOf "is_integer" "is_integer" (defArgs s_is_integer) (defBody s_is_integer) (defScope s_is_integer) .none kVa1 dca1 pma1 ana1 cda1 cta1), sla1⟩) (Ca1 : PySem.W.codeIn K cda1 "is_integer" = true) (Ka1 : PySem.W.keepIn K (.ref fa1) = true)
    (Aa2 : PySem.W.nsIn K mainGlobals "are_gaps" = some (some (.ref fa2)))
    (La2 : K.lookup fa2 = some ⟨oca2, oda2, .func (PySem.W.fnOf "are_gaps" "are_gaps" (defArgs s_are_gaps) (defBody s_are_gaps) (defScope s_are_gaps) .none kVa2 dca2 pma2 ana2 cda2 cta2), sla2⟩) (Ca2 : PySem.W.codeIn K cda2 "are_gaps" = true) (Ka2 : PySem.W.keepIn K (.ref fa2) = true)
    (Aa3 : PySem.W.nsIn K mainGlobals "_is_tail" = some (some (.ref fa3)))
    (La3 : K.lookup fa3 = some ⟨oca3, oda3, .func (PySem.W.fnOf "_is_tail" "_is_tail" (defArgs s_is_tail) (defBody s_is_tail) (defScope s_is_tail) .none kVa3 dca3 pma3 ana3 cda3 cta3), sla3⟩) (Ca3 : PySem.W.codeIn K cda3 "_is_tail" = true) (Ka3 : PySem.W.keepIn K (.ref fa3) = true)
    (Aa4 : PySem.W.nsIn K mainGlobals "sums" = some (some (.ref fa4)))
    (La4 : K.lookup fa4 = some ⟨oca4, oda4, .func (PySem.W.fnOf "sums" "sums" (defArgs s_sums) (defBody s_sums) (defScope s_sums) .none kVa4 dca4 pma4 ana4 cda4 cta4), sla4⟩) (Ca4 : PySem.W.codeIn K cda4 "sums" = true) (Ka4 : PySem.W.keepIn K (.ref fa4) = true)
    (Ar6 : PySem.W.findIn K (.ref C) "__init__" = some (some (.ref fr6))) (Ir6 : PySem.W.isFn K (.ref fr6) = true)
    (Lr6 : K.lookup fr6 = some ⟨ocr6, odr6, .func (PySem.W.fnOf "__init__" "Rule.__init__" (defArgs s_Rule_ddinitdd) (defBody s_Rule_ddinitdd) (defScope s_Rule_ddinitdd) .none kVr6 dcr6 pmr6 anr6 cdr6 ctr6), slr6⟩) (Cr6 : PySem.W.codeIn K cdr6 "Rule.__init__" = true) (Kr6 : PySem.W.keepIn K (.ref fr6) = true)
    (Ar8 : PySem.W.findIn K (.ref C) "first_repeating" = some (some (.ref fr8))) (Ir8 : PySem.W.isFn K (.ref fr8) = true)
    (Lr8 : K.lookup fr8 = some ⟨ocr8, odr8, .func (PySem.W.fnOf "first_repeating" "Rule.first_repeating" (defArgs s_Rule_first_repeating) (defBody s_Rule_first_repeating) (defScope s_Rule_first_repeating) .none kVr8 dcr8 pmr8 anr8 cdr8 ctr8), slr8⟩) (Cr8 : PySem.W.codeIn K cdr8 "Rule.first_repeating" = true) (Kr8 : PySem.W.keepIn K (.ref fr8) = true)
    (Ar9 : PySem.W.findIn K (.ref C) "period" = some (some (.ref fr9))) (Ir9 : PySem.W.isFn K (.ref fr9) = true)
    (Lr9 : K.lookup fr9 = some ⟨ocr9, odr9, .func (PySem.W.fnOf "period" "Rule.period" (defArgs s_Rule_period) (defBody s_Rule_period) (defScope s_Rule_period) .none kVr9 dcr9 pmr9 anr9 cdr9 ctr9), slr9⟩) (Cr9 : PySem.W.codeIn K cdr9 "Rule.period" = true) (Kr9 : PySem.W.keepIn K (.ref fr9) = true)
    (Ar10 : PySem.W.findIn K (.ref C) "gaps" = some (some (.ref fr10))) (Ir10 : PySem.W.isFn K (.ref fr10) = true)
    (Lr10 : K.lookup fr10 = some ⟨ocr10, odr10, .func (PySem.W.fnOf "gaps" "Rule.gaps" (defArgs s_Rule_gaps) (defBody s_Rule_gaps) (defScope s_Rule_gaps) .none kVr10 dcr10 pmr10 anr10 cdr10 ctr10), slr10⟩) (Cr10 : PySem.W.codeIn K cdr10 "Rule.gaps" = true) (Kr10 : PySem.W.keepIn K (.ref fr10) = true)
    (Aa12 : PySem.W.nsIn K mainGlobals "_law_source_of" = some (some (.ref fa12)))
    (La12 : K.lookup fa12 = some ⟨oca12, oda12, .func (PySem.W.fnOf "_law_source_of" "_law_source_of" (defArgs s_law_source_of) (defBody s_law_source_of) (defScope s_law_source_of) .none kVa12 dca12 pma12 ana12 cda12 cta12), sla12⟩) (Ca12 : PySem.W.codeIn K cda12 "_law_source_of" = true) (Ka12 : PySem.W.keepIn K (.ref fa12) = true)
    (Aa13 : PySem.W.nsIn K mainGlobals "_law_draw" = some (some (.ref fa13)))
    (La13 : K.lookup fa13 = some ⟨oca13, oda13, .func (PySem.W.fnOf "_law_draw" "_law_draw" (defArgs s_law_draw) (defBody s_law_draw) (defScope s_law_draw) .none kVa13 dca13 pma13 ana13 cda13 cta13), sla13⟩) (Ca13 : PySem.W.codeIn K cda13 "_law_draw" = true) (Ka13 : PySem.W.keepIn K (.ref fa13) = true)
    (Aa14 : PySem.W.nsIn K mainGlobals "_law_choice" = some (some (.ref fa14)))
    (La14 : K.lookup fa14 = some ⟨oca14, oda14, .func (PySem.W.fnOf "_law_choice" "_law_choice" (defArgs s_law_choice) (defBody s_law_choice) (defScope s_law_choice) .none kVa14 dca14 pma14 ana14 cda14 cta14), sla14⟩) (Ca14 : PySem.W.codeIn K cda14 "_law_choice" = true) (Ka14 : PySem.W.keepIn K (.ref fa14) = true)
    (Aa15 : PySem.W.nsIn K mainGlobals "_law_cell_at" = some (some (.ref fa15)))
    (La15 : K.lookup fa15 = some ⟨oca15, oda15, .func (PySem.W.fnOf "_law_cell_at" "_law_cell_at" (defArgs s_law_cell_at) (defBody s_law_cell_at) (defScope s_law_cell_at) .none kVa15 dca15 pma15 ana15 cda15 cta15), sla15⟩) (Ca15 : PySem.W.codeIn K cda15 "_law_cell_at" = true) (Ka15 : PySem.W.keepIn K (.ref fa15) = true)
    (Aa16 : PySem.W.nsIn K mainGlobals "check_starts" = some (some (.ref fa16)))
    (La16 : K.lookup fa16 = some ⟨oca16, oda16, .func (PySem.W.fnOf "check_starts" "check_starts" (defArgs s_check_starts) (defBody s_check_starts) (defScope s_check_starts) .none kVa16 dca16 pma16 ana16 cda16 cta16), sla16⟩) (Ca16 : PySem.W.codeIn K cda16 "check_starts" = true) (Ka16 : PySem.W.keepIn K (.ref fa16) = true)
    (Aa17 : PySem.W.nsIn K mainGlobals "listed_offsets" = some (some (.ref fa17)))
    (La17 : K.lookup fa17 = some ⟨oca17, oda17, .func (PySem.W.fnOf "listed_offsets" "listed_offsets" (defArgs s_listed_offsets) (defBody s_listed_offsets) (defScope s_listed_offsets) .none kVa17 dca17 pma17 ana17 cda17 cta17), sla17⟩) (Ca17 : PySem.W.codeIn K cda17 "listed_offsets" = true) (Ka17 : PySem.W.keepIn K (.ref fa17) = true)
    (Aa18 : PySem.W.nsIn K mainGlobals "repeating_offsets" = some (some (.ref fa18)))
    (La18 : K.lookup fa18 = some ⟨oca18, oda18, .func (PySem.W.fnOf "repeating_offsets" "repeating_offsets" (defArgs s_repeating_offsets) (defBody s_repeating_offsets) (defScope s_repeating_offsets) .none kVa18 dca18 pma18 ana18 cda18 cta18), sla18⟩) (Ca18 : PySem.W.codeIn K cda18 "repeating_offsets" = true) (Ka18 : PySem.W.keepIn K (.ref fa18) = true)
    (Aa19 : PySem.W.nsIn K mainGlobals "_residues" = some (some (.ref fa19)))
    (La19 : K.lookup fa19 = some ⟨oca19, oda19, .func (PySem.W.fnOf "_residues" "_residues" (defArgs s_residues) (defBody s_residues) (defScope s_residues) .none kVa19 dca19 pma19 ana19 cda19 cta19), sla19⟩) (Ca19 : PySem.W.codeIn K cda19 "_residues" = true) (Ka19 : PySem.W.keepIn K (.ref fa19) = true)
    (Aa20 : PySem.W.nsIn K mainGlobals "_residue_table" = some (some (.ref fa20)))
    (La20 : K.lookup fa20 = some ⟨oca20, oda20, .func (PySem.W.fnOf "_residue_table" "_residue_table" (defArgs s_residue_table) (defBody s_residue_table) (defScope s_residue_table) .none kVa20 dca20 pma20 ana20 cda20 cta20), sla20⟩) (Ca20 : PySem.W.codeIn K cda20 "_residue_table" = true) (Ka20 : PySem.W.keepIn K (.ref fa20) = true)
    (Aa21 : PySem.W.nsIn K mainGlobals "_greatest_closed" = some (some (.ref fa21)))
    (La21 : K.lookup fa21 = some ⟨oca21, oda21, .func (PySem.W.fnOf "_greatest_closed" "_greatest_closed" (defArgs s_greatest_closed) (defBody s_greatest_closed) (defScope s_greatest_closed) .none kVa21 dca21 pma21 ana21 cda21 cta21), sla21⟩) (Ca21 : PySem.W.codeIn K cda21 "_greatest_closed" = true) (Ka21 : PySem.W.keepIn K (.ref fa21) = true)
    (Aa22 : PySem.W.nsIn K mainGlobals "_partners" = some (some (.ref fa22)))
    (La22 : K.lookup fa22 = some ⟨oca22, oda22, .func (PySem.W.fnOf "_partners" "_partners" (defArgs s_partners) (defBody s_partners) (defScope s_partners) .none kVa22 dca22 pma22 ana22 cda22 cta22), sla22⟩) (Ca22 : PySem.W.codeIn K cda22 "_partners" = true) (Ka22 : PySem.W.keepIn K (.ref fa22) = true)
    (Aa23 : PySem.W.nsIn K mainGlobals "_check_repeating" = some (some (.ref fa23)))
    (La23 : K.lookup fa23 = some ⟨oca23, oda23, .func (PySem.W.fnOf "_check_repeating" "_check_repeating" (defArgs s_check_repeating) (defBody s_check_repeating) (defScope s_check_repeating) .none kVa23 dca23 pma23 ana23 cda23 cta23), sla23⟩) (Ca23 : PySem.W.codeIn K cda23 "_check_repeating" = true) (Ka23 : PySem.W.keepIn K (.ref fa23) = true)
    (Aa24 : PySem.W.nsIn K mainGlobals "_check_clients" = some (some (.ref fa24)))
    (La24 : K.lookup fa24 = some ⟨oca24, oda24, .func (PySem.W.fnOf "_check_clients" "_check_clients" (defArgs s_check_clients) (defBody s_check_clients) (defScope s_check_clients) .none kVa24 dca24 pma24 ana24 cda24 cta24), sla24⟩) (Ca24 : PySem.W.codeIn K cda24 "_check_clients" = true) (Ka24 : PySem.W.keepIn K (.ref fa24) = true)
    (Aa25 : PySem.W.nsIn K mainGlobals "_are_ascending" = some (some (.ref fa25)))
    (La25 : K.lookup fa25 = some ⟨oca25, oda25, .func (PySem.W.fnOf "_are_ascending" "_are_ascending" (defArgs s_are_ascending) (defBody s_are_ascending) (defScope s_are_ascending) .none kVa25 dca25 pma25 ana25 cda25 cta25), sla25⟩) (Ca25 : PySem.W.codeIn K cda25 "_are_ascending" = true) (Ka25 : PySem.W.keepIn K (.ref fa25) = true)
    (Aa26 : PySem.W.nsIn K mainGlobals "blocked_clients" = some (some (.ref fa26)))
    (La26 : K.lookup fa26 = some ⟨oca26, oda26, .func (PySem.W.fnOf "blocked_clients" "blocked_clients" (defArgs s_blocked_clients) (defBody s_blocked_clients) (defScope s_blocked_clients) .none kVa26 dca26 pma26 ana26 cda26 cta26), sla26⟩) (Ca26 : PySem.W.codeIn K cda26 "blocked_clients" = true) (Ka26 : PySem.W.keepIn K (.ref fa26) = true)
    (Aa27 : PySem.W.nsIn K mainGlobals "is_closed" = some (some (.ref fa27)))
    (La27 : K.lookup fa27 = some ⟨oca27, oda27, .func (PySem.W.fnOf "is_closed" "is_closed" (defArgs s_is_closed) (defBody s_is_closed) (defScope s_is_closed) .none kVa27 dca27 pma27 ana27 cda27 cta27), sla27⟩) (Ca27 : PySem.W.codeIn K cda27 "is_closed" = true) (Ka27 : PySem.W.keepIn K (.ref fa27) = true)
    (Aa28 : PySem.W.nsIn K mainGlobals "_law_repeating" = some (some (.ref fa28)))
    (La28 : K.lookup fa28 = some ⟨oca28, oda28, .func (PySem.W.fnOf "_law_repeating" "_law_repeating" (defArgs s_law_repeating) (defBody s_law_repeating) (defScope s_law_repeating) .none kVa28 dca28 pma28 ana28 cda28 cta28), sla28⟩) (Ca28 : PySem.W.codeIn K cda28 "_law_repeating" = true) (Ka28 : PySem.W.keepIn K (.ref fa28) = true)
    (Aa29 : PySem.W.nsIn K mainGlobals "_law_residues" = some (some (.ref fa29)))
    (La29 : K.lookup fa29 = some ⟨oca29, oda29, .func (PySem.W.fnOf "_law_residues" "_law_residues" (defArgs s_law_residues) (defBody s_law_residues) (defScope s_law_residues) .none kVa29 dca29 pma29 ana29 cda29 cta29), sla29⟩) (Ca29 : PySem.W.codeIn K cda29 "_law_residues" = true) (Ka29 : PySem.W.keepIn K (.ref fa29) = true)
    (Aa30 : PySem.W.nsIn K mainGlobals "_law_starts" = some (some (.ref fa30)))
    (La30 : K.lookup fa30 = some ⟨oca30, oda30, .func (PySem.W.fnOf "_law_starts" "_law_starts" (defArgs s_law_starts) (defBody s_law_starts) (defScope s_law_starts) .none kVa30 dca30 pma30 ana30 cda30 cta30), sla30⟩) (Ca30 : PySem.W.codeIn K cda30 "_law_starts" = true) (Ka30 : PySem.W.keepIn K (.ref fa30) = true)
    (Aa31 : PySem.W.nsIn K mainGlobals "_law_closed" = some (some (.ref fa31)))
    (La31 : K.lookup fa31 = some ⟨oca31, oda31, .func (PySem.W.fnOf "_law_closed" "_law_closed" (defArgs s_law_closed) (defBody s_law_closed) (defScope s_law_closed) .none kVa31 dca31 pma31 ana31 cda31 cta31), sla31⟩) (Ca31 : PySem.W.codeIn K cda31 "_law_closed" = true) (Ka31 : PySem.W.keepIn K (.ref fa31) = true)
    (Aa32 : PySem.W.nsIn K mainGlobals "_law_subsets" = some (some (.ref fa32)))
    (La32 : K.lookup fa32 = some ⟨oca32, oda32, .func (PySem.W.fnOf "_law_subsets" "_law_subsets" (defArgs s_law_subsets) (defBody s_law_subsets) (defScope s_law_subsets) .none kVa32 dca32 pma32 ana32 cda32 cta32), sla32⟩) (Ca32 : PySem.W.codeIn K cda32 "_law_subsets" = true) (Ka32 : PySem.W.keepIn K (.ref fa32) = true)
    (Aa33 : PySem.W.nsIn K mainGlobals "_law_partners" = some (some (.ref fa33)))
    (La33 : K.lookup fa33 = some ⟨oca33, oda33, .func (PySem.W.fnOf "_law_partners" "_law_partners" (defArgs s_law_partners) (defBody s_law_partners) (defScope s_law_partners) .none kVa33 dca33 pma33 ana33 cda33 cta33), sla33⟩) (Ca33 : PySem.W.codeIn K cda33 "_law_partners" = true) (Ka33 : PySem.W.keepIn K (.ref fa33) = true)
    (aC : PySem.W.nsIn K mainGlobals "Rule" = some (some (.ref C)))
    (pg : PySem.W.plainGet K C Str.empty = true)
    (hd : PySem.W.hasDictIn K C = true)
    (po : PySem.W.plainOver K C = true)
    (sa : PySem.W.findIn K (.ref C) "__setattr__" = some (some (.builtin "object.__setattr__")))
    (mk : PySem.W.makesIn K C = true)
    (kc : PySem.W.keepIn K (.ref C) = true)
    (n0 : PySem.W.findIn K (.ref C) "_gaps" = some none)
    (n1 : PySem.W.findIn K (.ref C) "_tail" = some none)
    (n2 : PySem.W.findIn K (.ref C) "_offsets" = some none)
    (z_len : PySem.W.nsIn K mainGlobals "len" = some none)
    (z_isinstance : PySem.W.nsIn K mainGlobals "isinstance" = some none)
    (z_int : PySem.W.nsIn K mainGlobals "int" = some none)
    (z_bool : PySem.W.nsIn K mainGlobals "bool" = some none)
    (z_list : PySem.W.nsIn K mainGlobals "list" = some none)
    (z_tuple : PySem.W.nsIn K mainGlobals "tuple" = some none)
    (z_str : PySem.W.nsIn K mainGlobals "str" = some none)
    (z_all : PySem.W.nsIn K mainGlobals "all" = some none)
    (z_range : PySem.W.nsIn K mainGlobals "range" = some none)
    (z_divmod : PySem.W.nsIn K mainGlobals "divmod" = some none)
    (z_sum : PySem.W.nsIn K mainGlobals "sum" = some none)
    (z_max : PySem.W.nsIn K mainGlobals "max" = some none)
    (z_min : PySem.W.nsIn K mainGlobals "min" = some none)
    (z_sorted : PySem.W.nsIn K mainGlobals "sorted" = some none)
    (z_set : PySem.W.nsIn K mainGlobals "set" = some none)
    (z_any : PySem.W.nsIn K mainGlobals "any" = some none)
    (z_enumerate : PySem.W.nsIn K mainGlobals "enumerate" = some none)
    (c_tM : PySem.W.nsIn K mainGlobals "_MOST_GAPS" = some (some (.int 20 tM)))
    (c_tF : PySem.W.nsIn K mainGlobals "_GREATEST_FACTOR" = some (some (.int 1000 tF)))
    (c_tL : PySem.W.nsIn K mainGlobals "LAST_GROWING" = some (some (.int 1000 tL)))
    (c_tC : PySem.W.nsIn K mainGlobals "MOST_CLIENTS" = some (some (.int 40 tC))) :
    ∃ fd : FuncData, (∀ (s : Shared) (v : Value), BindsTo s fd ⟨[v], []⟩ [("_law_script", v)]) ∧ ∀ base : Heap, K.In base → base.Ns mainGlobals mg → FnOk l.prog w K mg base CX0 7 fa fd ["_law_script"] (spLaw K) := by
  have e := hfa.symm.trans (PySem.W.mg_of X G Aa0)
  cases e
  have T : Txt K mg C := ⟨⟨pg, hd, po, sa⟩, n0, n1, n2, PySem.W.mg_of X G aC, PySem.W.mg_none_of X G z_len, PySem.W.mg_none_of X G z_isinstance, PySem.W.mg_none_of X G z_int, PySem.W.mg_none_of X G z_bool, PySem.W.mg_none_of X G z_list, PySem.W.mg_none_of X G z_tuple, PySem.W.mg_none_of X G z_str, PySem.W.mg_none_of X G z_all, PySem.W.mg_none_of X G z_range, PySem.W.mg_none_of X G z_divmod, PySem.W.mg_none_of X G z_sum, PySem.W.mg_none_of X G z_max, PySem.W.mg_none_of X G z_min, PySem.W.mg_none_of X G z_sorted, PySem.W.mg_none_of X G z_set, PySem.W.mg_none_of X G z_any, PySem.W.mg_none_of X G z_enumerate, ⟨tM, PySem.W.mg_of X G c_tM⟩, hlong, ⟨tF, PySem.W.mg_of X G c_tF⟩, ⟨tL, PySem.W.mg_of X G c_tL⟩⟩
  have M : Mk K C fr6 := ⟨mk, Ar6, Ir6, kc⟩
  have Fa0 := fun_mk (st := s_law) La0 Ca0 Ka0
  have Fa1 := fun_mk (st := s_is_integer) La1 Ca1 Ka1
  have Fa2 := fun_mk (st := s_are_gaps) La2 Ca2 Ka2
  have Fa3 := fun_mk (st := s_is_tail) La3 Ca3 Ka3
  have Fa4 := fun_mk (st := s_sums) La4 Ca4 Ka4
  have Fr6 := fun_mk (st := s_Rule_ddinitdd) Lr6 Cr6 Kr6
  have Fr8 := fun_mk (st := s_Rule_first_repeating) Lr8 Cr8 Kr8
  have Fr9 := fun_mk (st := s_Rule_period) Lr9 Cr9 Kr9
  have Fr10 := fun_mk (st := s_Rule_gaps) Lr10 Cr10 Kr10
  have Fa12 := fun_mk (st := s_law_source_of) La12 Ca12 Ka12
  have Fa13 := fun_mk (st := s_law_draw) La13 Ca13 Ka13
  have Fa14 := fun_mk (st := s_law_choice) La14 Ca14 Ka14
  have Fa15 := fun_mk (st := s_law_cell_at) La15 Ca15 Ka15
  have Fa16 := fun_mk (st := s_check_starts) La16 Ca16 Ka16
  have Fa17 := fun_mk (st := s_listed_offsets) La17 Ca17 Ka17
  have Fa18 := fun_mk (st := s_repeating_offsets) La18 Ca18 Ka18
  have Fa19 := fun_mk (st := s_residues) La19 Ca19 Ka19
  have Fa20 := fun_mk (st := s_residue_table) La20 Ca20 Ka20
  have Fa21 := fun_mk (st := s_greatest_closed) La21 Ca21 Ka21
  have Fa22 := fun_mk (st := s_partners) La22 Ca22 Ka22
  have Fa23 := fun_mk (st := s_check_repeating) La23 Ca23 Ka23
  have Fa24 := fun_mk (st := s_check_clients) La24 Ca24 Ka24
  have Fa25 := fun_mk (st := s_are_ascending) La25 Ca25 Ka25
  have Fa26 := fun_mk (st := s_blocked_clients) La26 Ca26 Ka26
  have Fa27 := fun_mk (st := s_is_closed) La27 Ca27 Ka27
  have Fa28 := fun_mk (st := s_law_repeating) La28 Ca28 Ka28
  have Fa29 := fun_mk (st := s_law_residues) La29 Ca29 Ka29
  have Fa30 := fun_mk (st := s_law_starts) La30 Ca30 Ka30
  have Fa31 := fun_mk (st := s_law_closed) La31 Ca31 Ka31
  have Fa32 := fun_mk (st := s_law_subsets) La32 Ca32 Ka32
  have Fa33 := fun_mk (st := s_law_partners) La33 Ca33 Ka33
  have ba1 := Fa1.binds (ps := ["value"]) fun _ _ _ _ _ _ us hl => match us, hl with | [_], _ => rfl
  have ga1 := PySem.W.mg_of X G Aa1
  have ba2 := Fa2.binds (ps := ["value", "most"]) fun _ _ _ _ _ _ us hl => match us, hl with | [_, _], _ => rfl
  have ga2 := PySem.W.mg_of X G Aa2
  have ba3 := Fa3.binds (ps := ["value", "many"]) fun _ _ _ _ _ _ us hl => match us, hl with | [_, _], _ => rfl
  have ga3 := PySem.W.mg_of X G Aa3
  have ba4 := Fa4.binds (ps := ["gaps"]) fun _ _ _ _ _ _ us hl => match us, hl with | [_], _ => rfl
  have ga4 := PySem.W.mg_of X G Aa4
  have br6 := Fr6.binds (ps := ["self", "gaps", "tail"]) fun _ _ _ _ _ _ us hl => match us, hl with | [_, _, _], _ => rfl
  have er6 : Meth K C "__init__" fr6 := ⟨Ar6, Ir6, Kr6⟩
  have br8 := Fr8.binds (ps := ["self"]) fun _ _ _ _ _ _ us hl => match us, hl with | [_], _ => rfl
  have er8 : Meth K C "first_repeating" fr8 := ⟨Ar8, Ir8, Kr8⟩
  have br9 := Fr9.binds (ps := ["self"]) fun _ _ _ _ _ _ us hl => match us, hl with | [_], _ => rfl
  have er9 : Meth K C "period" fr9 := ⟨Ar9, Ir9, Kr9⟩
  have br10 := Fr10.binds (ps := ["self"]) fun _ _ _ _ _ _ us hl => match us, hl with | [_], _ => rfl
  have er10 : Meth K C "gaps" fr10 := ⟨Ar10, Ir10, Kr10⟩
  have ba12 := Fa12.binds (ps := ["_law_cell"]) fun _ _ _ _ _ _ us hl => match us, hl with | [_], _ => rfl
  have ga12 := PySem.W.mg_of X G Aa12
  have ba13 := Fa13.binds (ps := ["_law_source", "_law_bound"]) fun _ _ _ _ _ _ us hl => match us, hl with | [_, _], _ => rfl
  have ga13 := PySem.W.mg_of X G Aa13
  have ba14 := Fa14.binds (ps := ["_law_source", "_law_options"]) fun _ _ _ _ _ _ us hl => match us, hl with | [_, _], _ => rfl
  have ga14 := PySem.W.mg_of X G Aa14
  have ba15 := Fa15.binds (ps := ["_law_script", "_law_index"]) fun _ _ _ _ _ _ us hl => match us, hl with | [_, _], _ => rfl
  have ga15 := PySem.W.mg_of X G Aa15
  have ba16 := Fa16.binds (ps := ["value", "fewest"]) fun _ _ _ _ _ _ us hl => match us, hl with | [_, _], _ => rfl
  have ga16 := PySem.W.mg_of X G Aa16
  have ba17 := Fa17.binds (ps := ["rule"]) fun _ _ _ _ _ _ us hl => match us, hl with | [_], _ => rfl
  have ga17 := PySem.W.mg_of X G Aa17
  have ba18 := Fa18.binds (ps := ["rule"]) fun _ _ _ _ _ _ us hl => match us, hl with | [_], _ => rfl
  have ga18 := PySem.W.mg_of X G Aa18
  have ba19 := Fa19.binds (ps := ["rule", "start"]) fun _ _ _ _ _ _ us hl => match us, hl with | [_, _], _ => rfl
  have ga19 := PySem.W.mg_of X G Aa19
  have ba20 := Fa20.binds (ps := ["rule", "starts"]) fun _ _ _ _ _ _ us hl => match us, hl with | [_, _], _ => rfl
  have ga20 := PySem.W.mg_of X G Aa20
  have ba21 := Fa21.binds (ps := ["table", "clients"]) fun _ _ _ _ _ _ us hl => match us, hl with | [_, _], _ => rfl
  have ga21 := PySem.W.mg_of X G Aa21
  have ba22 := Fa22.binds (ps := ["table", "client", "clients"]) fun _ _ _ _ _ _ us hl => match us, hl with | [_, _, _], _ => rfl
  have ga22 := PySem.W.mg_of X G Aa22
  have ba23 := Fa23.binds (ps := ["rule"]) fun _ _ _ _ _ _ us hl => match us, hl with | [_], _ => rfl
  have ga23 := PySem.W.mg_of X G Aa23
  have ba24 := Fa24.binds (ps := ["rule", "starts"]) fun _ _ _ _ _ _ us hl => match us, hl with | [_, _], _ => rfl
  have ga24 := PySem.W.mg_of X G Aa24
  have ba25 := Fa25.binds (ps := ["value", "many"]) fun _ _ _ _ _ _ us hl => match us, hl with | [_, _], _ => rfl
  have ga25 := PySem.W.mg_of X G Aa25
  have ba26 := Fa26.binds (ps := ["rule", "starts"]) fun _ _ _ _ _ _ us hl => match us, hl with | [_, _], _ => rfl
  have ga26 := PySem.W.mg_of X G Aa26
  have ba27 := Fa27.binds (ps := ["rule", "starts", "value"]) fun _ _ _ _ _ _ us hl => match us, hl with | [_, _, _], _ => rfl
  have ga27 := PySem.W.mg_of X G Aa27
  have ba28 := Fa28.binds (ps := ["_law_source"]) fun _ _ _ _ _ _ us hl => match us, hl with | [_], _ => rfl
  have ga28 := PySem.W.mg_of X G Aa28
  have ba29 := Fa29.binds (ps := ["_law_gaps", "_law_count", "_law_start"]) fun _ _ _ _ _ _ us hl => match us, hl with | [_, _, _], _ => rfl
  have ga29 := PySem.W.mg_of X G Aa29
  have ba30 := Fa30.binds (ps := ["_law_source", "_law_gaps", "_law_count", "_law_most"]) fun _ _ _ _ _ _ us hl => match us, hl with | [_, _, _, _], _ => rfl
  have ga30 := PySem.W.mg_of X G Aa30
  have ba31 := Fa31.binds (ps := ["_law_gaps", "_law_count", "_law_starts_here", "_law_members"]) fun _ _ _ _ _ _ us hl => match us, hl with | [_, _, _, _], _ => rfl
  have ga31 := PySem.W.mg_of X G Aa31
  have ba32 := Fa32.binds (ps := ["_law_size"]) fun _ _ _ _ _ _ us hl => match us, hl with | [_], _ => rfl
  have ga32 := PySem.W.mg_of X G Aa32
  have ba33 := Fa33.binds (ps := ["_law_gaps", "_law_count", "_law_starts_here", "_law_members", "_law_client"]) fun _ _ _ _ _ _ us hl => match us, hl with | [_, _, _, _, _], _ => rfl
  have ga33 := PySem.W.mg_of X G Aa33

  refine ⟨PySem.W.fnOf "law" "law" (defArgs s_law) (defBody s_law) (defScope s_law) .none kVa0 dca0 pma0 ana0 cda0 cta0, fun s v => .of_eq rfl, fun base _ _ => ?_⟩
  have G0 := ok_isInt (mg := mg) (P := l.prog) (w := w) (base := base) Fa1 T
  have G6 := ok_sums (mg := mg) (P := l.prog) (w := w) (base := base) Fa4
  have G10 := ok_init (mg := mg) (P := l.prog) (w := w) (base := base) Fr6 T Fa1 ba1 ga1 Fa2 ba2 ga2 Fa3 ba3 ga3 Fa4 ba4 ga4
  have G16 := ok_fr (mg := mg) (P := l.prog) (w := w) (base := base) Fr8 T
  have G18 := ok_per (mg := mg) (P := l.prog) (w := w) (base := base) Fr9 T Fr8 br8 er8
  have G20 := ok_gaps (mg := mg) (P := l.prog) (w := w) (base := base) Fr10 T
  have G24 := ok_srcOf (mg := mg) (P := l.prog) (w := w) (base := base) Fa12 T
  have G26 := ok_next (mg := mg) (P := l.prog) (w := w) (base := base) Fa13 T
  have G28 := ok_one (mg := mg) (P := l.prog) (w := w) (base := base) Fa14 T Fa13 ba13 ga13
  have G30 := ok_cell (mg := mg) (P := l.prog) (w := w) (base := base) Fa15 T
  have G32 := ok_chS (mg := mg) (P := l.prog) (w := w) (base := base) Fa16 T ⟨tC, PySem.W.mg_of X G c_tC⟩ G0 ba1 ga1 Ka1
  have G34 := ok_lo (mg := mg) (P := l.prog) (w := w) (base := base) Fa17 T G6 ba4 ga4 Ka4 G20 br10 er10
  have G36 := ok_ro (mg := mg) (P := l.prog) (w := w) (base := base) Fa18 T G34 ba17 ga17 Ka17 G16 br8 er8
  have G38 := ok_res (mg := mg) (P := l.prog) (w := w) (base := base) Fa19 T G36 ba18 ga18 Ka18 G18 br9 er9
  have G40 := ok_tab (mg := mg) (P := l.prog) (w := w) (base := base) Fa20 T G38 ba19 ga19 Ka19
  have G42 := ok_gc (mg := mg) (P := l.prog) (w := w) (base := base) Fa21 T
  have G44 := ok_part (mg := mg) (P := l.prog) (w := w) (base := base) Fa22 T
  have G46 := ok_ckR (mg := mg) (P := l.prog) (w := w) (base := base) Fa23 T G16 br8 er8
  have G48 := ok_ckL (mg := mg) (P := l.prog) (w := w) (base := base) Fa24 T G46 ba23 ga23 Ka23 G32 ba16 ga16 Ka16
  have G50 := ok_asc (mg := mg) (P := l.prog) (w := w) (base := base) Fa25 T G0 ba1 ga1 Ka1
  have G52 := ok_blk (mg := mg) (P := l.prog) (w := w) (base := base) Fa26 T G48 ba24 ga24 Ka24 G40 ba20 ga20 Ka20 G42 ba21 ga21 Ka21 G44 ba22 ga22 Ka22
  have G54 := ok_isC (mg := mg) (P := l.prog) (w := w) (base := base) Fa27 T G48 ba24 ga24 Ka24 G40 ba20 ga20 Ka20 G42 ba21 ga21 Ka21 G50 ba25 ga25 Ka25
  have G56 := ok_rep (mg := mg) (P := l.prog) (w := w) (base := base) Fa28 T G26 ba13 ga13 Ka13 G28 ba14 ga14 Ka14
  have G58 := ok_lres (mg := mg) (P := l.prog) (w := w) (base := base) Fa29 T
  have G60 := ok_sts (mg := mg) (P := l.prog) (w := w) (base := base) Fa30 T G26 ba13 ga13 Ka13 G28 ba14 ga14 Ka14 G58 ba29 ga29 Ka29
  have G62 := ok_clo (mg := mg) (P := l.prog) (w := w) (base := base) Fa31 T G58 ba29 ga29 Ka29
  have G64 := ok_sub (mg := mg) (P := l.prog) (w := w) (base := base) Fa32 T
  have G66 := ok_lpa (mg := mg) (P := l.prog) (w := w) (base := base) Fa33 T G58 ba29 ga29 Ka29
  exact ok_law (P := l.prog) (w := w) (base := base) Fa0 T M G10 br6 G30 ba15 ga15 Ka15 G24 ba12 ga12 Ka12 G56 ba28 ga28 Ka28 G60 ba30 ga30 Ka30 G64 ba32 ga32 Ka32 G62 ba31 ga31 Ka31 G66 ba33 ga33 Ka33 G52 ba26 ga26 Ka26 G54 ba27 ga27 Ka27
/-- the end of the walk, with what the top left loose -/
theorem walk_x {l : PySem.W.OpenLaw} {q : Program} {loose : List Str} {XP : (Str → Option Value) → Heap → Prop} {YP : World → Heap → Prop} {d : DefRec} {K : Params → PySem.W.Frag} (hn : l.most = some 63) (hdf : d.params.defaults = [])
    (hY : ∀ (w : World) (h : Heap), YP w h → (K w.params).In h)
    (F : ∀ (w : World) (mg : Str → Option Value) (fa : Addr) (h : Heap), (K w.params).In h → h.Ns mainGlobals mg → mg d.name = some (.ref fa) → XP mg h →
      ∃ fd : FuncData, (∀ (s : Shared) (u : Value), BindsTo s fd ⟨[u], []⟩ [("_law_script", u)]) ∧ ∀ base : Heap, (K w.params).In base → base.Ns mainGlobals mg → FnOk l.prog w (K w.params) mg base CX0 7 fa fd ["_law_script"] (spLaw (K w.params))) :
    PySem.W.WalkO q loose XP YP l.row.toRowW d [] (fun f vs => PySem.call f vs) := by
  refine Att.attach_call hn hdf ?_
  intro w _ s1 mg _ fa _ _ _ _ a vs ns G Y _ _ _ hmg hobj hints hlen hg
  obtain ⟨fd, hb, hF⟩ := F w mg fa _ (hY w _ Y) G.T.g hmg G.X
  refine law_call (hY w _ Y) G.T.g G.T.b G.T.builtins G.T.nolimit hg hobj hints ?_ ?_ hF hb ?_ ?_
  · exact Nat.le_trans hlen (by decide)
  · exact ⟨rfl, by decide, by decide⟩
  · exact fun H _ hS => ⟨a, ns, rfl, hS, hlen, fun _ => rfl⟩
  · exact fun H e s' z => z
theorem long_of {p : Program} {mg : Str → Option Value} {h : Heap} (x : PySem.W.XL p [("_LONGEST_GAP", .int 1000000000000)] mg h) : ∃ t, mg "_LONGEST_GAP" = some (.int 1000000000000 t) := by
  obtain ⟨v, e, r⟩ := x.2.val _ (List.mem_singleton.mpr rfl)
  cases r
  exact ⟨_, e⟩
end RS
open PySem PySem.W PyProof.Rows
set_option maxRecDepth 100000 in
set_option maxHeartbeats 0 in
theorem PySem.Challenge.cw_retryslots_k68_blocked_clients_holds : PySem.Challenge.rw_retryslots_k68_blocked_clients.Holds := by
  w_on; o_law; k_head; (case hw => w_witness2)
  k_fill
  refine RS.walk_x (l := PySem.Challenge.rw_retryslots_k68_blocked_clients) rfl rfl (fun w h Y => PySem.W.kIn_of Y) ?F
  case F =>
    intro w mg fa h KX G hmg XX
    refine' RS.all_mk KX G hmg (RS.long_of XX) ?Aa0 ?La0 ?Ca0 ?Ka0 ?Aa1 ?La1 ?Ca1 ?Ka1 ?Aa2 ?La2 ?Ca2 ?Ka2 ?Aa3 ?La3 ?Ca3 ?Ka3 ?Aa4 ?La4 ?Ca4 ?Ka4 ?Ar6 ?Ir6 ?Lr6 ?Cr6 ?Kr6 ?Ar8 ?Ir8 ?Lr8 ?Cr8 ?Kr8 ?Ar9 ?Ir9 ?Lr9 ?Cr9 ?Kr9 ?Ar10 ?Ir10 ?Lr10 ?Cr10 ?Kr10 ?Aa12 ?La12 ?Ca12 ?Ka12 ?Aa13 ?La13 ?Ca13 ?Ka13 ?Aa14 ?La14 ?Ca14 ?Ka14 ?Aa15 ?La15 ?Ca15 ?Ka15 ?Aa16 ?La16 ?Ca16 ?Ka16 ?Aa17 ?La17 ?Ca17 ?Ka17 ?Aa18 ?La18 ?Ca18 ?Ka18 ?Aa19 ?La19 ?Ca19 ?Ka19 ?Aa20 ?La20 ?Ca20 ?Ka20 ?Aa21 ?La21 ?Ca21 ?Ka21 ?Aa22 ?La22 ?Ca22 ?Ka22 ?Aa23 ?La23 ?Ca23 ?Ka23 ?Aa24 ?La24 ?Ca24 ?Ka24 ?Aa25 ?La25 ?Ca25 ?Ka25 ?Aa26 ?La26 ?Ca26 ?Ka26 ?Aa27 ?La27 ?Ca27 ?Ka27 ?Aa28 ?La28 ?Ca28 ?Ka28 ?Aa29 ?La29 ?Ca29 ?Ka29 ?Aa30 ?La30 ?Ca30 ?Ka30 ?Aa31 ?La31 ?Ca31 ?Ka31 ?Aa32 ?La32 ?Ca32 ?Ka32 ?Aa33 ?La33 ?Ca33 ?Ka33 ?aC ?pg ?hd ?po ?sa ?mk ?kc ?n0 ?n1 ?n2 ?z_len ?z_isinstance ?z_int ?z_bool ?z_list ?z_tuple ?z_str ?z_all ?z_range ?z_divmod ?z_sum ?z_max ?z_min ?z_sorted ?z_set ?z_any ?z_enumerate ?c_tM ?c_tF ?c_tL ?c_tC
    (case aC => k_is)
    (case Aa0 => k_is)
    (case La0 => k_is)
    (case Ca0 => k_is)
    (case Ka0 => k_is)
    (case Aa1 => k_is)
    (case La1 => k_is)
    (case Ca1 => k_is)
    (case Ka1 => k_is)
    (case Aa2 => k_is)
    (case La2 => k_is)
    (case Ca2 => k_is)
    (case Ka2 => k_is)
    (case Aa3 => k_is)
    (case La3 => k_is)
    (case Ca3 => k_is)
    (case Ka3 => k_is)
    (case Aa4 => k_is)
    (case La4 => k_is)
    (case Ca4 => k_is)
    (case Ka4 => k_is)
    (case Ar6 => k_is)
    (case Ir6 => k_is)
    (case Lr6 => k_is)
    (case Cr6 => k_is)
    (case Kr6 => k_is)
    (case Ar8 => k_is)
    (case Ir8 => k_is)
    (case Lr8 => k_is)
    (case Cr8 => k_is)
    (case Kr8 => k_is)
    (case Ar9 => k_is)
    (case Ir9 => k_is)
    (case Lr9 => k_is)
    (case Cr9 => k_is)
    (case Kr9 => k_is)
    (case Ar10 => k_is)
    (case Ir10 => k_is)
    (case Lr10 => k_is)
    (case Cr10 => k_is)
    (case Kr10 => k_is)
    (case Aa12 => k_is)
    (case La12 => k_is)
    (case Ca12 => k_is)
    (case Ka12 => k_is)
    (case Aa13 => k_is)
    (case La13 => k_is)
    (case Ca13 => k_is)
    (case Ka13 => k_is)
    (case Aa14 => k_is)
    (case La14 => k_is)
    (case Ca14 => k_is)
    (case Ka14 => k_is)
    (case Aa15 => k_is)
    (case La15 => k_is)
    (case Ca15 => k_is)
    (case Ka15 => k_is)
    (case Aa16 => k_is)
    (case La16 => k_is)
    (case Ca16 => k_is)
    (case Ka16 => k_is)
    (case Aa17 => k_is)
    (case La17 => k_is)
    (case Ca17 => k_is)
    (case Ka17 => k_is)
    (case Aa18 => k_is)
    (case La18 => k_is)
    (case Ca18 => k_is)
    (case Ka18 => k_is)
    (case Aa19 => k_is)
    (case La19 => k_is)
    (case Ca19 => k_is)
    (case Ka19 => k_is)
    (case Aa20 => k_is)
    (case La20 => k_is)
    (case Ca20 => k_is)
    (case Ka20 => k_is)
    (case Aa21 => k_is)
    (case La21 => k_is)
    (case Ca21 => k_is)
    (case Ka21 => k_is)
    (case Aa22 => k_is)
    (case La22 => k_is)
    (case Ca22 => k_is)
    (case Ka22 => k_is)
    (case Aa23 => k_is)
    (case La23 => k_is)
    (case Ca23 => k_is)
    (case Ka23 => k_is)
    (case Aa24 => k_is)
    (case La24 => k_is)
    (case Ca24 => k_is)
    (case Ka24 => k_is)
    (case Aa25 => k_is)
    (case La25 => k_is)
    (case Ca25 => k_is)
    (case Ka25 => k_is)
    (case Aa26 => k_is)
    (case La26 => k_is)
    (case Ca26 => k_is)
    (case Ka26 => k_is)
    (case Aa27 => k_is)
    (case La27 => k_is)
    (case Ca27 => k_is)
    (case Ka27 => k_is)
    (case Aa28 => k_is)
    (case La28 => k_is)
    (case Ca28 => k_is)
    (case Ka28 => k_is)
    (case Aa29 => k_is)
    (case La29 => k_is)
    (case Ca29 => k_is)
    (case Ka29 => k_is)
    (case Aa30 => k_is)
    (case La30 => k_is)
    (case Ca30 => k_is)
    (case Ka30 => k_is)
    (case Aa31 => k_is)
    (case La31 => k_is)
    (case Ca31 => k_is)
    (case Ka31 => k_is)
    (case Aa32 => k_is)
    (case La32 => k_is)
    (case Ca32 => k_is)
    (case Ka32 => k_is)
    (case Aa33 => k_is)
    (case La33 => k_is)
    (case Ca33 => k_is)
    (case Ka33 => k_is)
    (case pg => k_is)
    (case hd => k_is)
    (case po => k_is)
    (case sa => k_is)
    (case mk => k_is)
    (case kc => k_is)
    (case n0 => k_is)
    (case n1 => k_is)
    (case n2 => k_is)
    (case z_len => k_is)
    (case z_isinstance => k_is)
    (case z_int => k_is)
    (case z_bool => k_is)
    (case z_list => k_is)
    (case z_tuple => k_is)
    (case z_str => k_is)
    (case z_all => k_is)
    (case z_range => k_is)
    (case z_divmod => k_is)
    (case z_sum => k_is)
    (case z_max => k_is)
    (case z_min => k_is)
    (case z_sorted => k_is)
    (case z_set => k_is)
    (case z_any => k_is)
    (case z_enumerate => k_is)
    (case c_tM => k_is)
    (case c_tF => k_is)
    (case c_tL => k_is)
    (case c_tC => k_is)

import PyProof.Rows.All
import Wide.All
import OpenK.AllK
import Wide.FinOn
import HandS.ForMost
import HandS.Evl
import HandS.Wide
import HandS.WideBits
import HandS.IsInst
import KE.KEqDeep
import KE.KMinKey
import HandS.Codes
import HandS.OwnEq
import PyProof.InstNe
import HandS.MakeKwOnly
import HandS.SortKw
import HandS.Defaults
import HandS.Exc
import HandS.TryOnly
import HandS.TryMany
import HandS.ExcOwn
import HandS.WordsExc
import HandS.More
import HandS.Lambda
import KE.KExcIs
import HandS.HotCalls
import HandS.ExcInit
import KE.KExcInit
import HandS.Walk
import HandS.Flow
import HandS.Style
import HandS.Star
import HandS.Iter
import PyProof.ReprRoads
import HandS.EndTab
import KE.DataFind
import HandS.SetFor
import HandS.Strs
import HandS.SortInts
import HandS.Conv
import HandS.SetKeys
import KE.DataMinMax
import KE.SortData
import HandS.NoneIn
import PySem.Challenge.RW_retryslots_k20_distances_refused
set_option Elab.async false
set_option maxRecDepth 100000
set_option maxHeartbeats 2000000
namespace RS
open PySem L2
def top (i : Nat) : Stmt := PySem.Challenge.pw_retryslots_k20_distances_refused.main.body.getD i (.Pass ⟨0, 0, 0, 0⟩)
abbrev s_wall : Stmt := top 0
abbrev s_InvalidRule_ddinitdd : Stmt := inClass (top 3) 0
abbrev s_InvalidAttempt_ddinitdd : Stmt := inClass (top 4) 0
abbrev s_InvalidSlot_ddinitdd : Stmt := inClass (top 5) 0
abbrev s_InvalidBound_ddinitdd : Stmt := inClass (top 6) 0
abbrev s_LimitExceeded_ddinitdd : Stmt := inClass (top 7) 0
abbrev s_is_integer : Stmt := top 9
abbrev s_check_bound : Stmt := top 12
abbrev s_are_gaps : Stmt := top 13
abbrev s_sums : Stmt := top 15
abbrev s_listed_offsets : Stmt := top 16
abbrev s_single_offsets : Stmt := top 17
abbrev s_offsets_beyond : Stmt := top 18
abbrev s_is_spread : Stmt := top 20
abbrev s_first_repetition : Stmt := top 21
abbrev s_is_repetition : Stmt := top 22
abbrev s_shared_attempts : Stmt := top 23
abbrev s_most_shared : Stmt := top 24
abbrev s_next_distance : Stmt := top 25
abbrev s_count_distances : Stmt := top 26
abbrev s_check_distance : Stmt := top 27
abbrev s_is_pair : Stmt := top 28
abbrev s_is_attempt : Stmt := top 29
abbrev s_difference : Stmt := top 30
abbrev s_reaching : Stmt := top 31
abbrev s_reaching_repeated : Stmt := top 32
abbrev s_telling_offsets : Stmt := top 33
abbrev s_fewest_repeating : Stmt := top 34
abbrev s_pairs_by_difference : Stmt := top 35
abbrev s_count_growing : Stmt := top 36
abbrev s_count_repeating : Stmt := top 37
abbrev s_least_by_residue : Stmt := top 38
abbrev s_Rule_ddinitdd : Stmt := inClass (top 43) 0
abbrev s_Rule_ddeqdd : Stmt := inClass (top 43) 1
abbrev s_Rule_gaps : Stmt := inClass (top 43) 2
abbrev s_Rule_tail : Stmt := inClass (top 43) 3
abbrev s_Rule_attempts : Stmt := inClass (top 43) 4
abbrev s_Rule_gap : Stmt := inClass (top 43) 5
abbrev s_Rule_offset : Stmt := inClass (top 43) 6
abbrev s_Rule_first_from : Stmt := inClass (top 43) 7
abbrev s_Rule_attempt_at : Stmt := inClass (top 43) 8
abbrev s_Rule_period : Stmt := inClass (top 43) 9
abbrev s_Rule_least_gap : Stmt := inClass (top 43) 10
abbrev s_Rule_first_repeating : Stmt := inClass (top 43) 11
abbrev s_Rule_offsets_between : Stmt := inClass (top 43) 12
abbrev s_Rule_check_attempt : Stmt := inClass (top 43) 13
abbrev s_Rule_offset_of : Stmt := inClass (top 43) 14
abbrev s_Rule_first_growing : Stmt := inClass (top 43) 15
abbrev s_Rule_surely_short : Stmt := inClass (top 43) 16
abbrev s_Rule_first_repeated : Stmt := inClass (top 43) 17
abbrev s_is_tail : Stmt := top 44
abbrev s_first_at_least : Stmt := top 45
abbrev s_power : Stmt := top 46
abbrev s_law_cell_at : Stmt := top 48
abbrev s_law_source_of : Stmt := top 49
abbrev s_law_draw : Stmt := top 50
abbrev s_law_choice : Stmt := top 51
abbrev s_law_gaps : Stmt := top 52
abbrev s_law_tail : Stmt := top 53
abbrev s_law_error : Stmt := top 54
abbrev s_law_names_right : Stmt := top 55
abbrev s_law : Stmt := top 56
/-! ### what the walk asks of the text's top -/
structure Txt (K : PySem.W.Frag) (mg : Str → Option Value) (C : Addr) : Prop where
  cl : Cls K C
  nG : NoAttr K C "_gaps"
  nT : NoAttr K C "_tail"
  nO : NoAttr K C "_offsets"
  mgC : mg "Rule" = some (.ref C)
  len : mg "len" = none
  isi : mg "isinstance" = none
  int : mg "int" = none
  bool : mg "bool" = none
  list : mg "list" = none
  tuple : mg "tuple" = none
  str : mg "str" = none
  all : mg "all" = none
  range : mg "range" = none
  divmod : mg "divmod" = none
  sum : mg "sum" = none
  max : mg "max" = none
  min : mg "min" = none
  sorted : mg "sorted" = none
  set : mg "set" = none
  any : mg "any" = none
  enum : mg "enumerate" = none
  mMost : ∃ t, mg "_MOST_GAPS" = some (.int 20 t)
  mLong : ∃ t, mg "_LONGEST_GAP" = some (.int 1000000000000 t)
  mFact : ∃ t, mg "_GREATEST_FACTOR" = some (.int 1000 t)
  mLast : ∃ t, mg "LAST_GROWING" = some (.int 1000 t)

/-! ### the data -/
/-- a rule's tail -/
inductive Tl where
  | fin
  | times (b : Int)
  | rep (n : Nat)
def Tl.vs : Tl → List V
  | .fin => [.str "end"]
  | .times b => [.str "times", .int b]
  | .rep n => [.str "repeat", .int (n : Int)]
def GapsOk (gs : List Int) : Prop := gs.length ≤ 20 ∧ ∀ g ∈ gs, 1 ≤ g ∧ g ≤ 1000000000000
def TlOk (many : Nat) : Tl → Prop
  | .fin => True
  | .times b => 0 < many ∧ 2 ≤ b ∧ b ≤ 1000
  | .rep n => 1 ≤ n ∧ n ≤ many
/-- the sum of the first k gaps -/
def pre (gs : List Int) (k : Nat) : Int := (gs.take k).sum
def offs (gs : List Int) : List Int := (List.range (gs.length + 1)).map (pre gs)
theorem offs_len (gs : List Int) : (offs gs).length = gs.length + 1 := by simp [offs]
theorem offs_get (gs : List Int) {k : Nat} (h : k ≤ gs.length) : (offs gs)[k]? = some (pre gs k) := by
  unfold offs
  rw [List.getElem?_map, List.getElem?_range (by omega)]
  rfl
theorem pre_zero (gs : List Int) : pre gs 0 = 0 := rfl
theorem pre_succ (gs : List Int) {k : Nat} {g : Int} (h : gs[k]? = some g) : pre gs (k + 1) = pre gs k + g := by
  unfold pre
  rw [List.take_add_one, h, List.sum_append]
  simp
theorem iteFb {b : Bool} {A B : Prop} (e : b = false) (h : B) : if b = true then A else B := by
  rw [e]
  exact iteF h
theorem iteTb {b : Bool} {A B : Prop} (e : b = true) (h : A) : if b = true then A else B := by
  rw [e]
  exact iteT h
theorem yes_t {Q : Bool → Hp → Prop} {σ : L2.St} {H : Hp} (h : Q true H) : tYes σ H Q := h
theorem at_map {xs : List Int} {j : Nat} {v : Int} (h : xs[j]? = some v) : atI (xs.map V.int) (j : Int) = some (.int v) := atI_nat (by rw [List.getElem?_map, h]; rfl)
theorem at_back {α : Type} {xs : List α} {j : Nat} {v : α} (h0 : 0 < j) (hj : j ≤ xs.length) (h : xs[xs.length - j]? = some v) : atI xs (-(j : Int)) = some v := by
  have e : ixN xs.length (-(j : Int)) = some (xs.length - j) := by
    unfold ixN
    rw [if_neg (by omega), if_pos (by omega)]
    congr 1
    omega
  unfold atI
  rw [e]
  exact h
theorem at_back1 {α : Type} {xs : List α} {v : α} (hj : 0 < xs.length) (h : xs[xs.length - 1]? = some v) : atI xs (-1) = some v := at_back (j := 1) (by omega) hj h

section
variable {P : Program} {w : World} {K : PySem.W.Frag} {mg : Str → Option Value} {base : Heap}
/-! ### is_integer -/
def spIsInt : Sp := fun vs H Q _ => ∃ i, vs = [.int i] ∧ Q (.bl true) H
theorem scIsInt : FnScope ["value"] ["value"] (defScope s_is_integer) := ⟨rfl, rfl, rfl, by decide +kernel, rfl, by decide +kernel, by decide +kernel⟩
theorem ok_isInt {f C : Addr} {fd : FuncData} (F : Fun K "is_integer" "is_integer" s_is_integer f fd) (T : Txt K mg C) : FnOk P w K mg base CX0 1 f fd ["value"] spIsInt := by
  refine F.ok scIsInt (fun vs H Q E h => ?_) (fun cdv A outer s H vs Q E hr h => ?_)
  · obtain ⟨i, rfl, _⟩ := h
    rfl
  · obtain ⟨i, rfl, k⟩ := h
    refine ⟨_, pss_one (ps_ret (pe_and (pe_callB call_isi (by rfl) T.isi (by decide +kernel) (pa_cons (pv 0) (pa_cons (pe_bltn (v := .ty "int") (by rfl) T.int (by decide +kernel) rfl) pa_nil))) (pe_one (pe_not (pe_callB call_isi (by rfl) T.isi (by decide +kernel) (pa_cons (pv 0) (pa_cons (pe_bltn (v := .ty "bool") (by rfl) T.bool (by decide +kernel) rfl) pa_nil))))))), ?_⟩
    refine ⟨_, rfl, _, _, _, _, _, rfl, .ty _, .base (.int i), kit_ty (r := true) (by decide +kernel), true, rfl, ?_⟩
    refine iteT ?_
    exact ⟨_, rfl, _, _, _, _, _, rfl, .ty _, .base (.int i), kit_ty (r := false) (by decide +kernel), false, rfl, k⟩

/-! ### _are_gaps -/
def spAreGaps : Sp := fun vs H Q _ => ∃ a gs, ∃ most : Nat, vs = [.ref a, .int (most : Int)] ∧ H a = some (.lst (gs.map V.int)) ∧ GapsOk gs ∧ gs.length ≤ most ∧ ∀ H', Same H H' → Q (.bl true) H'
theorem scAreGaps : FnScope ["value", "most", "gap"] ["value", "most"] (defScope s_are_gaps) := ⟨rfl, rfl, rfl, by decide +kernel, rfl, by decide +kernel, by decide +kernel⟩
theorem ok_areGaps {f C fi : Addr} {fd fdi : FuncData} (F : Fun K "are_gaps" "are_gaps" s_are_gaps f fd) (T : Txt K mg C) (FI : Fun K "is_integer" "is_integer" s_is_integer fi fdi) (bI : Binds K fdi ["value"] []) (mI : mg "is_integer" = some (.ref fi)) : FnOk P w K mg base CX0 2 f fd ["value", "most"] spAreGaps := by
  have GI : FnOk P w K mg base CX0 1 fi fdi ["value"] spIsInt := ok_isInt FI T
  obtain ⟨t2, m2⟩ := T.mLong
  refine F.ok scAreGaps (fun vs H Q E h => ?_) (fun cdv A outer s H vs Q E hr h => ?_)
  · obtain ⟨a, gs, most, rfl, _⟩ := h
    rfl
  · obtain ⟨a, gs, most, rfl, ha, ok, okm, k⟩ := h
    refine ⟨_, (pss_cons (ps_if (PW.pt (pw_or (pt_not (pt_val (pe_callB call_isi (by rfl) T.isi (by decide +kernel) (pa_cons (pv 0) (pa_cons (pe_bltn (v := .ty "list") (by rfl) T.list (by decide +kernel) rfl) pa_nil))))) (pw_or1 (pt_cmpR op_gt (pe_callB call_len_seq (by rfl) T.len (by decide +kernel) (pa_cons (pv 0) pa_nil)) (pv 1) (nomark _))))) (pss_one (ps_ret pe_bl)) pss_nil) (pss_one (ps_ret (pe_callB (cr_all rfl) (by rfl) T.all (by decide +kernel) (pa_cons (pe_lc (own := [("gap", 2)]) (g := gName 2) (tt := tYes) rfl scAreGaps.nd (pi_list (pv 0)) (blkOk_by (own := [("gap", 2)]) (N := ["value", "most", "gap"]) (sc := defScope s_are_gaps) (by decide +kernel))
          (fun _ _ _ _ _ => (pg_name (i := 2) scAreGaps.nd rfl (Or.inl rfl))) (fun _ _ _ _ _ => pts_nil)
          (fun _ _ _ _ _ => pe_and (pe_call GI hr rfl mI FI.kp bI .nil pass0 (pa_cons (pv 2) pa_nil)) (pe_one (pe_chain op_le op_le pe_int (pv 2) (pe_glob (v := .int 1000000000000) rfl m2 ⟨_, rfl⟩))))) pa_nil))))), ?_⟩
    refine ⟨_, rfl, _, _, _, _, _, rfl, .ty _, .base (.lst ha), kit_ty (r := true) (by decide +kernel), true, rfl, ?_⟩
    refine iteF ?_
    refine ⟨_, rfl, a, _, rfl, .inl (SqL.of ha), _, rfl, _, _, rfl, rfl, _, rfl, ?_⟩
    refine iteFb (decide_eq_false (by rw [List.length_map]; omega)) ?_
    refine ⟨_, rfl, a, rfl, ⟨_, SqL.of ha⟩, fun D hD => lc_list (a := a) (xs := gs.map V.int) (fun i H' => Same H H' ∧ H' D = some (.lst ((List.replicate i true).map V.bl))) ⟨?_, upd_same⟩ (fun i H' _ p => p.1.seq (SqL.of ha)) (fun i x H' hx p => ?_) (fun H' p => ?_)⟩
    · intro b o e
      rw [upd_ne (ne_of_none e hD)]
      exact e
    · obtain ⟨g, hg, rfl⟩ : ∃ g, gs[i]? = some g ∧ x = .int g := by
        rw [List.getElem?_map] at hx
        cases e : gs[i]? with
        | none => rw [e] at hx; cases hx
        | some g => rw [e] at hx; exact ⟨g, rfl, (Option.some.inj hx).symm⟩
      have hb := ok.2 g (List.mem_of_getElem? hg)
      have hi : i < gs.length := (List.getElem?_eq_some_iff.mp hg).1
      refine ⟨rfl, ?_⟩
      refine yes_t (iteT ?_)
      refine ⟨_, rfl, g, rfl, true, rfl, iteT ?_⟩
      refine ⟨_, rfl, _, _, rfl, rfl, _, rfl, iteTb (decide_eq_true hb.1) ?_⟩
      refine ⟨_, _, rfl, rfl, _, p.2, ?_, fun b o e => ?_, ?_⟩
      · rw [List.length_map, List.length_replicate]
        exact small1000 (by have := ok.1; omega)
      · rw [upd_ne (ne_of_none e hD)]
        exact p.1 b o e
      · rw [upd_same, List.replicate_succ', List.map_append]
        show some (HO.lst (List.map V.bl (List.replicate i true) ++ [V.bl (decide (g ≤ 1000000000000))])) = _
        rw [decide_eq_true hb.2]
        rfl
    · refine ⟨D, _, rfl, SqL.of p.2, ?_⟩
      have e : (List.replicate (gs.map V.int).length true).all id = true := by
        rw [List.all_eq_true]
        intro x hx
        rw [(List.mem_replicate.mp hx).2]
        rfl
      rw [e]
      exact k H' p.1

/-! ### _is_tail -/
def spIsTail : Sp := fun vs H Q _ => ∃ (t : Addr) (tl : Tl) (n : Nat), vs = [.ref t, .int (n : Int)] ∧ H t = some (.tup tl.vs) ∧ TlOk n tl ∧ ∀ H', Same H H' → Q (.bl true) H'
theorem scIsTail : FnScope ["value", "many"] ["value", "many"] (defScope s_is_tail) := ⟨rfl, rfl, rfl, by decide +kernel, rfl, by decide +kernel, by decide +kernel⟩
theorem same_new {H : Hp} {p : Addr} {o : HO} (h : H p = none) : Same H (upd H p o) := fun b u e => by
  rw [upd_ne (ne_of_none e h)]
  exact e
theorem ok_isTail {f C fi : Addr} {fd fdi : FuncData} (F : Fun K "_is_tail" "_is_tail" s_is_tail f fd) (T : Txt K mg C) (FI : Fun K "is_integer" "is_integer" s_is_integer fi fdi) (bI : Binds K fdi ["value"] []) (mI : mg "is_integer" = some (.ref fi)) : FnOk P w K mg base CX0 2 f fd ["value", "many"] spIsTail := by
  have GI : FnOk P w K mg base CX0 1 fi fdi ["value"] spIsInt := ok_isInt FI T
  obtain ⟨t1, m1⟩ := T.mFact
  refine F.ok scIsTail (fun vs H Q E h => ?_) (fun cdv A outer s H vs Q E hr h => ?_)
  · obtain ⟨t, tl, n, rfl, _⟩ := h
    rfl
  · obtain ⟨t, tl, n, rfl, ht, ok, k⟩ := h
    refine ⟨_, (pss_cons (ps_if (PW.pt (pw_or (pt_not (pt_val (pe_callB call_isi (by rfl) T.isi (by decide +kernel) (pa_cons (pv 0) (pa_cons (pe_bltn (v := .ty "tuple") (by rfl) T.tuple (by decide +kernel) rfl) pa_nil))))) (pw_or1 (pt_cmpR op_notIn_seq (pe_callB call_len_seq (by rfl) T.len (by decide +kernel) (pa_cons (pv 0) pa_nil)) (pe_tup (pa_cons pe_int (pa_cons pe_int pa_nil))) (by rfl))))) (pss_one (ps_ret pe_bl)) pss_nil) (pss_cons (ps_if (pt_not (pt_val (pe_callB call_isi (by rfl) T.isi (by decide +kernel) (pa_cons (pe_ix ix_tup (pv 0) pe_int (fun _ _ => rfl)) (pa_cons (pe_bltn (v := .ty "str") (by rfl) T.str (by decide +kernel) rfl) pa_nil))))) (pss_one (ps_ret pe_bl)) pss_nil) (pss_cons (ps_if (pt_cmpR op_eq (pe_callB call_len_seq (by rfl) T.len (by decide +kernel) (pa_cons (pv 0) pa_nil)) pe_int (nomark _)) (pss_one (ps_ret (pe_cmpR op_eq (pe_ix ix_tup (pv 0) pe_int (fun _ _ => rfl)) pe_str (nomark _)))) pss_nil) (pss_cons (ps_if (pt_not (pt_val (pe_call GI hr rfl mI FI.kp bI .nil pass0 (pa_cons (pe_ix ix_tup (pv 0) pe_int (fun _ _ => rfl)) pa_nil)))) (pss_one (ps_ret pe_bl)) pss_nil) (pss_cons (ps_if (pt_cmpR op_eq (pe_ix ix_tup (pv 0) pe_int (fun _ _ => rfl)) pe_str (nomark _)) (pss_one (ps_ret (pe_and (pe_cmpR op_gt (pv 1) pe_int (nomark _)) (pe_one (pe_chain op_le op_le pe_int (pe_ix ix_tup (pv 0) pe_int (fun _ _ => rfl)) (pe_glob (v := .int 1000) rfl m1 ⟨_, rfl⟩)))))) pss_nil) (pss_one (ps_ret (pe_and (pe_cmpR op_eq (pe_ix ix_tup (pv 0) pe_int (fun _ _ => rfl)) pe_str (nomark _)) (pe_one (pe_chain op_le op_le pe_int (pe_ix ix_tup (pv 0) pe_int (fun _ _ => rfl)) (pv 1))))))))))), ?_⟩
    refine ⟨_, rfl, _, _, _, _, _, rfl, .ty _, .base (.tup ht), kit_ty (r := true) (by decide +kernel), true, rfl, ?_⟩
    refine iteF ?_
    refine ⟨_, rfl, t, _, rfl, .inr (SqT.of ht), by show 2 ≤ sizeLine; decide, fun q hq => ?_⟩
    have hS : Same H (upd H q (.tup [.int 1, .int 2])) := same_new hq
    have ht2 := hS t _ ht
    refine ⟨q, _, rfl, .inr (SqT.of upd_same), rfl, rfl, _, rfl, ?_⟩
    cases tl with
    | fin =>
      refine iteFb (by decide +kernel) ?_
      refine ⟨_, rfl, t, _, _, _, rfl, rfl, SqT.of ht2, atI_nat (j := 0) rfl, _, _, _, _, _, rfl, .ty _, .base (.str _), kit_ty (r := true) (by decide +kernel), true, rfl, iteF ?_⟩
      refine ⟨_, rfl, t, _, rfl, .inr (SqT.of ht2), rfl, _, rfl, iteTb (by decide +kernel) ?_⟩
      refine ⟨_, rfl, t, _, _, _, rfl, rfl, SqT.of ht2, atI_nat (j := 0) rfl, rfl, ?_⟩
      exact k _ hS
    | times b =>
      refine iteFb (by show (!inV (V.int 2) [V.int 1, V.int 2]) = false; decide +kernel) ?_
      refine ⟨_, rfl, t, _, _, _, rfl, rfl, SqT.of ht2, atI_nat (j := 0) rfl, _, _, _, _, _, rfl, .ty _, .base (.str _), kit_ty (r := true) (by decide +kernel), true, rfl, iteF ?_⟩
      refine ⟨_, rfl, t, _, rfl, .inr (SqT.of ht2), rfl, _, rfl, iteFb (by show decide (V.int 2 = V.int 1) = false; decide +kernel) ?_⟩
      refine ⟨_, rfl, t, _, _, _, rfl, rfl, SqT.of ht2, atI_nat (j := 1) rfl, b, rfl, true, rfl, iteF ?_⟩
      refine ⟨_, rfl, t, _, _, _, rfl, rfl, SqT.of ht2, atI_nat (j := 0) rfl, rfl, _, rfl, iteTb (by decide +kernel) ?_⟩
      refine ⟨_, rfl, _, _, rfl, rfl, _, rfl, iteTb (decide_eq_true (by have := ok.1; omega)) ?_⟩
      refine ⟨_, rfl, t, _, _, _, rfl, rfl, SqT.of ht2, atI_nat (j := 1) rfl, _, _, rfl, rfl, _, rfl, iteTb (decide_eq_true ok.2.1) ?_⟩
      refine ⟨_, _, rfl, rfl, ?_⟩
      show Q (.bl (decide (b ≤ 1000))) _
      rw [decide_eq_true ok.2.2]
      exact k _ hS
    | rep m =>
      refine iteFb (by show (!inV (V.int 2) [V.int 1, V.int 2]) = false; decide +kernel) ?_
      refine ⟨_, rfl, t, _, _, _, rfl, rfl, SqT.of ht2, atI_nat (j := 0) rfl, _, _, _, _, _, rfl, .ty _, .base (.str _), kit_ty (r := true) (by decide +kernel), true, rfl, iteF ?_⟩
      refine ⟨_, rfl, t, _, rfl, .inr (SqT.of ht2), rfl, _, rfl, iteFb (by show decide (V.int 2 = V.int 1) = false; decide +kernel) ?_⟩
      refine ⟨_, rfl, t, _, _, _, rfl, rfl, SqT.of ht2, atI_nat (j := 1) rfl, _, rfl, true, rfl, iteF ?_⟩
      refine ⟨_, rfl, t, _, _, _, rfl, rfl, SqT.of ht2, atI_nat (j := 0) rfl, rfl, _, rfl, iteFb (by decide +kernel) ?_⟩
      refine ⟨_, rfl, t, _, _, _, rfl, rfl, SqT.of ht2, atI_nat (j := 0) rfl, rfl, true, by decide +kernel, iteT ?_⟩
      refine ⟨_, rfl, t, _, _, _, rfl, rfl, SqT.of ht2, atI_nat (j := 1) rfl, _, _, rfl, rfl, _, rfl, iteTb (decide_eq_true (by have := ok.1; omega)) ?_⟩
      refine ⟨_, rfl, _, _, rfl, rfl, ?_⟩
      show Q (.bl (decide (((m : Nat) : Int) ≤ (n : Int)))) _
      rw [decide_eq_true (show ((m : Nat) : Int) ≤ (n : Int) by have := ok.2; omega)]
      exact k _ hS
end
end RS
/-! ### comprehensions that only make values -/
namespace L2
open PySem PySem.Spec PyProof.Rows
/-- what the first i turns have made -/
def selTo (sel : Nat → Option V) (i : Nat) : List V := (List.range i).filterMap sel
theorem selTo_succ (sel : Nat → Option V) (i : Nat) : selTo sel (i + 1) = selTo sel i ++ (sel i).toList := by
  unfold selTo
  rw [List.range_succ, List.filterMap_append]
  cases h : sel i <;> simp [h]
theorem selTo_le (sel : Nat → Option V) (i : Nat) : (selTo sel i).length ≤ i := by
  unfold selTo
  have := List.length_filterMap_le sel (List.range i)
  rw [List.length_range] at this
  exact this
theorem selTo_get (ys : List V) : ∀ i, i ≤ ys.length → selTo (fun j : Nat => ys[j]?) i = ys.take i
  | 0, _ => rfl
  | i + 1, h => by
    rw [selTo_succ, selTo_get ys i (by omega), List.take_add_one]
theorem same_app {H1 H : Hp} {D : Addr} {o : HO} (hD : H1 D = none) (S : Same H1 H) : Same H1 (upd H D o) := fun b u e => by
  rw [upd_ne (ne_of_none e hD)]
  exact S b u e
theorem small_line {n : Nat} (h : n ≤ 100000) : n < sizeLine := Nat.lt_of_le_of_lt h (by decide +kernel)
/-- xs[i] in a block, K written -/
theorem pe_ixK {X : Cx} (K : PySem.W.Frag) (hK : X.K = K) {o i : Expr} {to ti : TE} {pos : Pos} (ho : PE X o to) (hi : PE X i ti) (hp : PlainIx i := by exact fun _ _ => rfl) : PE X (.Subscript o i pos) (tOp (rIxL K) to ti) := by
  subst hK
  exact pe_ix ix_list ho hi hp
theorem pe_ixTK {X : Cx} (K : PySem.W.Frag) (hK : X.K = K) {o i : Expr} {to ti : TE} {pos : Pos} (ho : PE X o to) (hi : PE X i ti) (hp : PlainIx i := by exact fun _ _ => rfl) : PE X (.Subscript o i pos) (tOp (rIxT K) to ti) := by
  subst hK
  exact pe_ix ix_tup ho hi hp
section
variable {X : Cx} {e tg : Expr} {te : TE} {p pos : Pos}
theorem pi_listK (K : PySem.W.Frag) (hK : X.K = K) (h : PE X e te) : PI X tg e (iList K te) := by
  subst hK
  exact pi_list h
theorem pi_tupK (K : PySem.W.Frag) (hK : X.K = K) (h : PE X e te) : PI X tg e (iTup K te) := by
  subst hK
  exact pi_tup h
theorem pe_allK (K : PySem.W.Frag) (hK : X.K = K) (hc : X.calm = true) (hg : Gl X "all") (hm : X.mg "all" = none) (ha : PE X e te) (hs : starEach [e] X.env = (false, eval e X.env) :: starEach [] X.env := by rfl) : PE X (.Call (.Name "all" p) [e] [] pos) (tCB (rAll K) (tCons te tNil)) := by
  subst hK
  exact pe_callB (cr_all hc) hg hm (by decide +kernel) (pa_cons ha pa_nil hs) (he := hs)
theorem pe_minK (K : PySem.W.Frag) (hK : X.K = K) (hc : X.calm = true) (hg : Gl X "min") (hm : X.mg "min" = none) (ha : PE X e te) (hs : starEach [e] X.env = (false, eval e X.env) :: starEach [] X.env := by rfl) : PE X (.Call (.Name "min" p) [e] [] pos) (tCB (rMin K) (tCons te tNil)) := by
  subst hK
  exact pe_callB (cr_min hc) hg hm (by decide +kernel) (pa_cons ha pa_nil hs) (he := hs)
end
section
variable {K : PySem.W.Frag} {a : Addr} {xs : List V} {g : TG} {tt : TT} {te : TE} {vs : List Nat} {σ : St} {H1 : Hp} {D : Addr} {Qd : Hp → Prop}
/-- over a list: turn i makes sel i, or nothing -/
theorem lc_sel (sel : Nat → Option V) (hx : SqL K H1 a xs) (hD : H1 D = none) (hn : xs.length ≤ 100000)
    (hs : ∀ (i : Nat) (x : V) (H : Hp) (Q : Option V → Hp → Prop), xs[i]? = some x → Same H1 H → (∀ H', Same H H' → Q (sel i) H') → g x (wipe σ vs) H fun σ2 H2 => wipe σ2 vs = wipe σ vs ∧ tt σ2 H2 fun b H3 =>
      if b = true then te σ2 H3 fun y H4 => Q (some y) H4 else Q none H3)
    (hd : ∀ H, Same H1 H → H D = some (.lst (selTo sel xs.length)) → Qd H) :
    ∃ W : Nat → Nat → Hp → Prop, (∃ m, W 0 m (upd H1 D (.lst []))) ∧ ∀ i m H, W i m H →
      ((Itl K a).stop i H ∧ Qd H) ∨ ((Itl K a).go i H ∧ ∃ Nx : Hp → Prop, (∀ H', Nx H' → ∃ m', m' < m ∧ W (i + 1) m' H') ∧ ∀ x H', (Itl K a).yld i H x H' → g x (wipe σ vs) H' fun σ2 H2 => wipe σ2 vs = wipe σ vs ∧ tt σ2 H2 fun b H3 =>
        if b = true then te σ2 H3 fun y H4 => ∃ acc, H4 D = some (.lst acc) ∧ acc.length < sizeLine ∧ Nx (upd H4 D (.lst (acc ++ [y]))) else Nx H3) := by
  refine lc_list (a := a) (xs := xs) (fun i H => i ≤ xs.length ∧ Same H1 H ∧ H D = some (.lst (selTo sel i))) ⟨Nat.zero_le _, same_app hD (fun _ _ e => e), upd_same⟩ (fun i H _ p => p.2.1.seq hx) (fun i x H hi p => ?_) (fun H p => hd H p.2.1 p.2.2)
  have hlt : i < xs.length := (List.getElem?_eq_some_iff.mp hi).1
  refine hs i x H (fun o H' => match o with | some y => ∃ acc, H' D = some (.lst acc) ∧ acc.length < sizeLine ∧ (i + 1 ≤ xs.length ∧ Same H1 (upd H' D (.lst (acc ++ [y]))) ∧ upd H' D (.lst (acc ++ [y])) D = some (.lst (selTo sel (i + 1)))) | none => i + 1 ≤ xs.length ∧ Same H1 H' ∧ H' D = some (.lst (selTo sel (i + 1)))) hi p.2.1 (fun H' S => ?_)
  have hl := selTo_le sel i
  rw [selTo_succ]
  cases sel i with
  | none => exact ⟨hlt, p.2.1.trans S, by simpa using S _ _ p.2.2⟩
  | some y => exact ⟨_, S _ _ p.2.2, small_line (by omega), hlt, same_app hD (p.2.1.trans S), upd_same⟩
/-- over a range -/
theorem lc_selR {lo : Int} {n : Nat} (sel : Nat → Option V) (hD : H1 D = none) (hn : n ≤ 100000)
    (hs : ∀ (i : Nat) (H : Hp) (Q : Option V → Hp → Prop), i < n → Same H1 H → (∀ H', Same H H' → Q (sel i) H') → g (.int (lo + i)) (wipe σ vs) H fun σ2 H2 => wipe σ2 vs = wipe σ vs ∧ tt σ2 H2 fun b H3 =>
      if b = true then te σ2 H3 fun y H4 => Q (some y) H4 else Q none H3)
    (hd : ∀ H, Same H1 H → H D = some (.lst (selTo sel n)) → Qd H) :
    ∃ W : Nat → Nat → Hp → Prop, (∃ m, W 0 m (upd H1 D (.lst []))) ∧ ∀ i m H, W i m H →
      ((Itr lo n).stop i H ∧ Qd H) ∨ ((Itr lo n).go i H ∧ ∃ Nx : Hp → Prop, (∀ H', Nx H' → ∃ m', m' < m ∧ W (i + 1) m' H') ∧ ∀ x H', (Itr lo n).yld i H x H' → g x (wipe σ vs) H' fun σ2 H2 => wipe σ2 vs = wipe σ vs ∧ tt σ2 H2 fun b H3 =>
        if b = true then te σ2 H3 fun y H4 => ∃ acc, H4 D = some (.lst acc) ∧ acc.length < sizeLine ∧ Nx (upd H4 D (.lst (acc ++ [y]))) else Nx H3) := by
  refine lc_range (fun i H => i ≤ n ∧ Same H1 H ∧ H D = some (.lst (selTo sel i))) ⟨Nat.zero_le _, same_app hD (fun _ _ e => e), upd_same⟩ (fun i H hlt p => ?_) (fun H p => hd H p.2.1 p.2.2)
  refine hs i H (fun o H' => match o with | some y => ∃ acc, H' D = some (.lst acc) ∧ acc.length < sizeLine ∧ (i + 1 ≤ n ∧ Same H1 (upd H' D (.lst (acc ++ [y]))) ∧ upd H' D (.lst (acc ++ [y])) D = some (.lst (selTo sel (i + 1)))) | none => i + 1 ≤ n ∧ Same H1 H' ∧ H' D = some (.lst (selTo sel (i + 1)))) hlt p.2.1 (fun H' S => ?_)
  have hl := selTo_le sel i
  rw [selTo_succ]
  cases sel i with
  | none => exact ⟨hlt, p.2.1.trans S, by simpa using S _ _ p.2.2⟩
  | some y => exact ⟨_, S _ _ p.2.2, small_line (by omega), hlt, same_app hD (p.2.1.trans S), upd_same⟩
theorem yes_ite {te : TE} {F : V → Hp → Prop} {N : Hp → Prop} {σ : St} {H : Hp} : (tYes σ H fun b H3 => if b = true then te σ H3 F else N H3) = te σ H F := by simp [tYes]
/-- over a list, without a test: the values ys -/
theorem lc_map (ys : List V) (hx : SqL K H1 a xs) (hD : H1 D = none) (hl : ys.length = xs.length) (hn : xs.length ≤ 100000)
    (hs : ∀ (i : Nat) (x y : V) (H : Hp) (Q : V → Hp → Prop), xs[i]? = some x → ys[i]? = some y → Same H1 H → (∀ H', Same H H' → Q y H') → g x (wipe σ vs) H fun σ2 H2 => wipe σ2 vs = wipe σ vs ∧ te σ2 H2 Q)
    (hd : ∀ H, Same H1 H → H D = some (.lst ys) → Qd H) :
    ∃ W : Nat → Nat → Hp → Prop, (∃ m, W 0 m (upd H1 D (.lst []))) ∧ ∀ i m H, W i m H →
      ((Itl K a).stop i H ∧ Qd H) ∨ ((Itl K a).go i H ∧ ∃ Nx : Hp → Prop, (∀ H', Nx H' → ∃ m', m' < m ∧ W (i + 1) m' H') ∧ ∀ x H', (Itl K a).yld i H x H' → g x (wipe σ vs) H' fun σ2 H2 => wipe σ2 vs = wipe σ vs ∧ tYes σ2 H2 fun b H3 =>
        if b = true then te σ2 H3 fun y H4 => ∃ acc, H4 D = some (.lst acc) ∧ acc.length < sizeLine ∧ Nx (upd H4 D (.lst (acc ++ [y]))) else Nx H3) := by
  refine lc_sel (fun j : Nat => ys[j]?) hx hD hn (fun i x H Q hi S q => ?_) (fun H S h => hd H S (by rw [← hl, selTo_get ys _ (Nat.le_refl _), List.take_length] at h; exact h))
  have hlt : i < xs.length := (List.getElem?_eq_some_iff.mp hi).1
  have hy : ys[i]? = some ys[i] := List.getElem?_eq_getElem (by omega)
  simp only [yes_ite]
  exact hs i x _ H (fun y H' => Q (some y) H') hi hy S fun H' S' => hy ▸ q H' S'
theorem lc_mapR {lo : Int} {n : Nat} (ys : List V) (hD : H1 D = none) (hl : ys.length = n) (hn : n ≤ 100000)
    (hs : ∀ (i : Nat) (y : V) (H : Hp) (Q : V → Hp → Prop), i < n → ys[i]? = some y → Same H1 H → (∀ H', Same H H' → Q y H') → g (.int (lo + i)) (wipe σ vs) H fun σ2 H2 => wipe σ2 vs = wipe σ vs ∧ te σ2 H2 Q)
    (hd : ∀ H, Same H1 H → H D = some (.lst ys) → Qd H) :
    ∃ W : Nat → Nat → Hp → Prop, (∃ m, W 0 m (upd H1 D (.lst []))) ∧ ∀ i m H, W i m H →
      ((Itr lo n).stop i H ∧ Qd H) ∨ ((Itr lo n).go i H ∧ ∃ Nx : Hp → Prop, (∀ H', Nx H' → ∃ m', m' < m ∧ W (i + 1) m' H') ∧ ∀ x H', (Itr lo n).yld i H x H' → g x (wipe σ vs) H' fun σ2 H2 => wipe σ2 vs = wipe σ vs ∧ tYes σ2 H2 fun b H3 =>
        if b = true then te σ2 H3 fun y H4 => ∃ acc, H4 D = some (.lst acc) ∧ acc.length < sizeLine ∧ Nx (upd H4 D (.lst (acc ++ [y]))) else Nx H3) := by
  refine lc_selR (fun j : Nat => ys[j]?) hD hn (fun i H Q hlt S q => ?_) (fun H S h => hd H S (by rw [← hl, selTo_get ys _ (Nat.le_refl _), List.take_length] at h; exact h))
  have hy : ys[i]? = some ys[i] := List.getElem?_eq_getElem (by omega)
  simp only [yes_ite]
  exact hs i _ H (fun y H' => Q (some y) H') hlt hy S fun H' S' => hy ▸ q H' S'
end
end L2
/-! ### set(xs) of a list of ints -/
namespace L2
open PySem PySem.Spec PyProof.Rows
def eset (w : World) : Obj := { cls := .type "set", dict := none, data := .set #[] 0 (.fresh 0 0 (!w.params.followText "set-order")) }
section
variable {P : Program} {w : World} {A : Around} {E : Value → Shared → Prop} {s : Shared}
set_option maxHeartbeats 4000000 in
theorem set_from {l : Addr} {its : Array Value} (zs : List Int) {Q : Value → Shared → Prop} (calm : A.handled = none) (isl : s.heap.IsList l its) (hz : IntsAre its.toList zs) (few : zs.length + 1 < scanBound)
    (fin : ∀ (g : Heap) (tt n : Nat), SetR w g s.heap.objs.size (fun j => decide (j ∈ zs)) n → n ≤ zs.length → (∀ b o, s.heap.get? b = some o → g.get? b = some o) → Q (.ref s.heap.objs.size) { s with heap := g, toks := tt }) :
    wpAny (model P w) A (call (.type "set") [.ref l]) Q E s := by
  have many : its.size = zs.length := by simpa using IntsAre.length hz
  have k1 := F.called_set
  obtain ⟨cc, tll, mroS⟩ := k1.mro
  have m1 := k1.made; have m2 := k1.sub; have m3 := k1.notType; have m4 := k1.canCreate; have m5 := F.typeCall_set_1 (.ref l)
  refine wpAny_call (codeAny_of_tree (show wpAny _ _ (callAny (.type "set") _) _ _ _ from wpAny_pure ⟨Code.quiet_builtin _ (by decide +kernel), codeAny_builtin F.entry_type_call ?_⟩))
  rw [Around.under_plain (weight_type_call_type "set" [.ref l] []) rfl]
  repeat (any_goals (first | assumption | wp_step))
  refine codeAny_mono (code_set_led1 (.ref l) (E := E) (Q₁ := fun ob t => ob = .ref s.heap.objs.size ∧ t = { s with heap := s.heap.push (eset w) }) ⟨rfl, rfl⟩) fun out t1 told => ?_
  match out, told with
  | .error _, told => exact told
  | .ok .next, told => exact told.elim
  | .ok .brk, told => exact told.elim
  | .ok .cont, told => exact told.elim
  | .ok (.ret ob), ⟨eo, et⟩ =>
    subst eo et
    have atS : (s.heap.push (eset w)).get? s.heap.objs.size = some (eset w) := Heap.get?_push_size _ rfl
    have tyS : Shared.TypeIs { s with heap := s.heap.push (eset w) } (.ref s.heap.objs.size) "set" := ⟨_, atS, rfl⟩
    have n1 := k1.init.lookup; have n2 := k1.init.bind (.ref s.heap.objs.size)
    repeat (any_goals (first | assumption | wp_step))
    refine codeAny_mono (codeAny_call_builtin (R := wants (fun r t => r = .none ∧ ∃ g tt n, t = { s with heap := g, toks := tt } ∧ SetR w g s.heap.objs.size (fun j => decide (j ∈ zs)) n ∧ n ≤ zs.length ∧ ∀ b o, s.heap.get? b = some o → g.get? b = some o) E) k1.init.plain F.entry_set_init (check_set_init_1 tyS ?_)) fun out t2 told => ?_
    · obtain ⟨⟨oc, od, odt, osl⟩, atL, cl, nn, dt⟩ := isl
      simp only at cl dt
      subst cl dt
      have atL1 : (s.heap.push (eset w)).get? l = some { cls := .type "list", dict := od, data := .seq its nn, slots := osl } := Heap.get?_push_of_some _ atL
      have q1 := F.sub_list_set; have q2 := F.sub_list_frozenset
      have q3 : (Value.type "list" == Value.type "dict") = false := by decide
      have isl1 : (s.heap.push (eset w)).IsList l its := ⟨_, atL1, rfl, nn, rfl⟩
      unfold Builtin.«set.__init__» noKeywords Builtin.Frozenset.updateFrom
      generalize eP : pyIter = PP
      wp_walk
      subst eP
      refine wpAny_pyIter_list isl1 (wpAny_bind (wpAny_runValue ?_))
      have lo : l < s.heap.objs.size := Heap.lt_size atL
      have sz : (s.heap.push (eset w)).objs.size = s.heap.objs.size + 1 := Heap.size_push ..
      have calm3 : A.in1.in1.in1.handled = none := by simp [calm]
      have d1 : l ≠ (s.heap.push (eset w)).objs.size := by rw [sz]; exact Nat.ne_of_lt (Nat.lt_succ_of_lt lo)
      have d2 : s.heap.objs.size ∉ [(s.heap.push (eset w)).objs.size, l] := by
        rw [sz]
        simp only [List.mem_cons, List.not_mem_nil, or_false, not_or]
        exact ⟨Nat.ne_of_lt (Nat.lt_succ_self _), (Nat.ne_of_lt lo).symm⟩
      have vals : ∀ (i : Nat) (v : Value), its[i]? = some v → ∃ k t, zs[i]? = some k ∧ v = .int k t := fun i v hv => by
        have lt : i < zs.length := many ▸ (Array.getElem?_eq_some_iff.mp hv).1
        obtain ⟨t, ev⟩ := IntsAre.int_at hz i v (by simpa using hv)
        exact ⟨zs[i], t, List.getElem?_eq_getElem lt, by rw [ev, List.getD_eq_getElem?_getD, List.getElem?_eq_getElem lt] <;> rfl⟩
      refine set_update_ints ((Walks.list calm3 _ l d1 its).toS) s.heap.objs.size d2 zs many few vals (its.size - 0) 0 _ (by omega) (Nat.zero_le _) ⟨⟨_, Heap.get?_push_size _ rfl, rfl, rfl⟩, isl1.push _⟩ ⟨0, Nat.le_refl 0, setR_new_at (Heap.get?_push_of_some _ atS)⟩ fun t n mv hn R => ?_
      obtain ⟨g, gn, dr, tt, os⟩ := t
      obtain rfl : gn = s.gens := mv.gens
      obtain rfl : dr = s.drawn := mv.drawn
      obtain rfl : os = s.os := mv.os
      show wpAny _ _ _ _ _ _
      refine wpAny_pure (show wpAny _ _ (ret Value.none) _ _ _ from wpAny_pure ⟨rfl, g, tt, n, rfl, R, many ▸ hn, fun b o e => ?_⟩)
      have hb := Heap.lt_size e
      refine mv.heap b o ?_ (Heap.get?_push_of_some _ (Heap.get?_push_of_some _ e))
      simp only [List.mem_cons, List.not_mem_nil, or_false, not_or]
      rw [sz]
      exact ⟨Nat.ne_of_lt hb, Nat.ne_of_lt (Nat.lt_succ_of_lt hb)⟩
    · match out, told with
      | .error _, told => exact told
      | .ok .next, told => exact told.elim
      | .ok .brk, told => exact told.elim
      | .ok .cont, told => exact told.elim
      | .ok (.ret _), ⟨e1, g, tt, n, e2, R, hn, kp⟩ =>
        subst e1 e2
        repeat (any_goals (first | assumption | wp_step))
        exact fin _ _ _ R hn kp
end
section
variable {X : Cx}
def rSetOfL (K : PySem.W.Frag) (w : World) : List V → Hp → VK → Prop := fun xs H Q => ∃ (l : Addr) (ns : List Int), xs = [.ref l] ∧ SqL K H l (ns.map V.int) ∧ ns.length ≤ 4000 ∧ ∀ p n, H p = none → n ≤ ns.length → Q (.ref p) (upd H p (SetO w p (fun j => decide (j ∈ ns)) n))
theorem cr_setL (hc : X.calm = true) : CallR X (.type "set") (rSetOfL X.K X.w) := by
  intro pins s σ H xs us Q I r h
  obtain ⟨l, ns, rfl, hs, hn, q⟩ := h
  obtain ⟨its, rv, hl, _⟩ := I.list hs
  rw [Vals.ref1 r]
  refine set_from ns (I.ok.hd hc) hl.isList (by simpa using rv.ints) (by unfold scanBound; omega) fun g tt n R hle kp => ?_
  exact ⟨.ref _, upd H s.heap.objs.size (SetO X.w s.heap.objs.size (fun j => decide (j ∈ ns)) n), I.laid (t' := tt) kp (Nat.le_refl _) (setO_new R), rfl, q _ _ (I.hok.fresh (Nat.le_refl _)) hle⟩
end
end L2
namespace RS
open PySem L2
theorem kGT : ¬ (("_gaps" : Str) = "_tail") := by decide +kernel
theorem kGO : ¬ (("_gaps" : Str) = "_offsets") := by decide +kernel
theorem kTO : ¬ (("_tail" : Str) = "_offsets") := by decide +kernel
def flds (g t o : Addr) : List (Str × V) := putF "_offsets" (.ref o) (putF "_tail" (.ref t) (putF "_gaps" (.ref g) []))
theorem flds_g (g t o : Addr) : (flds g t o).lookup ("_gaps" : Str) = some (.ref g) := by
  unfold flds
  rw [lookup_putF, if_neg kGO, lookup_putF, if_neg kGT, lookup_putF, if_pos rfl]
theorem flds_t (g t o : Addr) : (flds g t o).lookup ("_tail" : Str) = some (.ref t) := by
  unfold flds
  rw [lookup_putF, if_neg kTO, lookup_putF, if_pos rfl]
theorem flds_o (g t o : Addr) : (flds g t o).lookup ("_offsets" : Str) = some (.ref o) := by
  unfold flds
  rw [lookup_putF, if_pos rfl]
theorem flds_no (g t o : Addr) {m : Str} (h1 : ¬ m = "_offsets") (h2 : ¬ m = "_tail") (h3 : ¬ m = "_gaps") : (flds g t o).lookup m = none := by
  unfold flds
  rw [lookup_putF, if_neg h1, lookup_putF, if_neg h2, lookup_putF, if_neg h3]
  rfl
/-- a rule stands at p -/
structure RuleAt (C : Addr) (H : Hp) (p g t o : Addr) (gs : List Int) (tl : Tl) : Prop where
  ob : ∃ dx, H p = some (.ins C dx (flds g t o))
  hg : H g = some (.lst (gs.map V.int))
  ht : H t = some (.tup tl.vs)
  ho : H o = some (.lst ((offs gs).map V.int))
  okG : GapsOk gs
  okT : TlOk gs.length tl
theorem RuleAt.mono {C : Addr} {H H' : Hp} {p g t o : Addr} {gs : List Int} {tl : Tl} (R : RuleAt C H p g t o gs tl) (h : Same H H') : RuleAt C H' p g t o gs tl :=
  ⟨let ⟨dx, e⟩ := R.ob; ⟨dx, h _ _ e⟩, h _ _ R.hg, h _ _ R.ht, h _ _ R.ho, R.okG, R.okT⟩
theorem map_of {xs : List Int} {i : Nat} {x : V} (hx : (xs.map V.int)[i]? = some x) : ∃ g, xs[i]? = some g ∧ x = .int g := by
  rw [List.getElem?_map] at hx
  cases e : xs[i]? with
  | none => rw [e] at hx; cases hx
  | some g => rw [e] at hx; exact ⟨g, rfl, (Option.some.inj hx).symm⟩

section
variable {P : Program} {w : World} {K : PySem.W.Frag} {mg : Str → Option Value} {base : Heap}
/-! ### _sums -/
def spSums : Sp := fun vs H Q _ => ∃ a gs, vs = [.ref a] ∧ H a = some (.lst (gs.map V.int)) ∧ gs.length ≤ 100 ∧ ∀ p H', H p = none → Same H H' → H' p = some (.lst ((offs gs).map V.int)) → Q (.ref p) H'
theorem scSums : FnScope ["gaps", "offsets", "gap"] ["gaps"] (defScope s_sums) := ⟨rfl, rfl, rfl, by decide +kernel, rfl, by decide +kernel, by decide +kernel⟩
theorem ok_sums {f : Addr} {fd : FuncData} (F : Fun K "sums" "sums" s_sums f fd) : FnOk P w K mg base CX0 1 f fd ["gaps"] spSums := by
  refine F.ok scSums (fun vs H Q E h => ?_) (fun cdv A outer s H vs Q E hr h => ?_)
  · obtain ⟨a, gs, rfl, _⟩ := h
    rfl
  · obtain ⟨a, gs, rfl, ha, hn, k⟩ := h
    refine ⟨_, (pss_cons (ps_set (i := 1) scSums.nd rfl (Or.inl rfl) (pe_lst (pa_cons pe_int pa_nil))) (pss_cons (ps_for PassesOwn.never rfl (pi_list (pv 0)) (pg_name (i := 2) scSums.nd rfl (Or.inl rfl)) (pss_one (ps_expr (pe_bm PySem.F.plainAttrs_list PySem.F.slot_list_append PySem.F.type_list_append mt_append (pv 1) (pa_cons (pe_op op_add (pe_ix ix_list (pv 1) (pe_un un_neg pe_int) (fun _ _ => rfl)) (pv 2)) pa_nil))))) (pss_one (ps_ret (pv 1))))), ?_⟩
    refine ⟨by show 1 ≤ sizeLine; decide, fun l hl => ?_⟩
    have S0 : Same H (upd H l (.lst [.int 0])) := same_new hl
    refine ⟨_, rfl, a, rfl, ⟨_, SqL.of (S0 _ _ ha)⟩, for_list (a := a) (xs := gs.map V.int) (fun i σ H' => ∃ v, σ = [some (.ref a), some (.ref l), v] ∧ Same H H' ∧ H' l = some (.lst (((List.range (i + 1)).map (pre gs)).map V.int))) ⟨none, rfl, S0, upd_same⟩ (fun i σ H' _ ⟨v, _, S, _⟩ => SqL.of (S _ _ ha)) ?_ ?_⟩
    · rintro i x σ H' hx ⟨v, rfl, S, hl'⟩
      obtain ⟨g, hg, rfl⟩ := map_of hx
      have hi : i < gs.length := (List.getElem?_eq_some_iff.mp hg).1
      have hz : (((List.range (i + 1)).map (pre gs)).map V.int).length = i + 1 := by simp
      refine ⟨_, rfl, .inl ⟨rfl, _, SqL.of hl'⟩, _, rfl, _, rfl, l, _, _, _, rfl, rfl, SqL.of hl', at_back1 (v := .int (pre gs i)) (by rw [hz]; omega) ?_, _, rfl, _, _, rfl, rfl, l, _, _, rfl, rfl, hl', by rw [hz]; exact small1000 (by omega), ?_⟩
      · rw [hz, List.getElem?_map, List.getElem?_map, List.getElem?_range (by omega)]
        rfl
      · refine ⟨_, rfl, fun b o e => ?_, ?_⟩
        · rw [upd_ne (ne_of_none e hl)]
          exact S b o e
        · rw [upd_same, List.range_succ (n := i + 1), List.map_append, List.map_append]
          show _ = some (HO.lst (_ ++ [V.int (pre gs (i + 1))]))
          rw [pre_succ gs hg]
    · rintro σ H' ⟨v, rfl, S, hl'⟩
      rw [List.length_map] at hl'
      exact ⟨_, rfl, k l H' hl S hl'⟩

/-! ### _power -/
def spPower : Sp := fun vs H Q _ => ∃ (b : Int) (e : Nat), vs = [.int b, .int (e : Int)] ∧ 0 ≤ b ∧ b < 1024 ∧ e ≤ 1024 ∧ Q (.int (b ^ e)) H
theorem scPower : FnScope ["base", "exponent", "result"] ["base", "exponent"] (defScope s_power) := ⟨rfl, rfl, rfl, by decide +kernel, rfl, by decide +kernel, by decide +kernel⟩
theorem pow_small {b : Int} {n : Nat} (h0 : 0 ≤ b) (h1 : b < 1024) (hn : n ≤ 2048) : (b ^ n).natAbs < 2 ^ 20481 := by
  rw [Int.natAbs_pow]
  have h2 : b.natAbs ≤ 2 ^ 10 := by omega
  have h3 : b.natAbs ^ n ≤ (2 ^ 10) ^ n := Nat.pow_le_pow_left h2 n
  rw [← Nat.pow_mul] at h3
  have h4 : 2 ^ (10 * n) < 2 ^ 20481 := Nat.pow_lt_pow_right (by decide) (by omega)
  omega
theorem half_mod (e k : Nat) : e % 2 ^ (k + 1) = e % 2 ^ k + 2 ^ k * (e / 2 ^ k % 2) := by
  rw [Nat.pow_succ, Nat.mod_mul]
theorem half_div (e k : Nat) : e / 2 ^ k / 2 = e / 2 ^ (k + 1) := by
  rw [Nat.pow_succ, Nat.div_div_eq_div_mul]
theorem ok_power {f : Addr} {fd : FuncData} (F : Fun K "_power" "_power" s_power f fd) : FnOk P w K mg base CX0 1 f fd ["base", "exponent"] spPower := by
  refine F.ok scPower (fun vs H Q E h => ?_) (fun cdv A outer s H vs Q E hr h => ?_)
  · obtain ⟨b, e, rfl, _⟩ := h
    rfl
  · obtain ⟨b, e, rfl, b0, b1, he, k⟩ := h
    refine ⟨_, (pss_cons (ps_set (i := 2) scPower.nd rfl (Or.inl rfl) pe_int) (pss_cons (ps_while PassesOwn.never (pt_cmpR op_gt (pv 1) pe_int (nomark _)) (pss_cons (ps_if (pt_cmpR op_eq (pe_op op_odd (pv 1) pe_int) pe_int (nomark _)) (pss_one (ps_set (i := 2) scPower.nd rfl (Or.inl rfl) (pe_op op_mulW (pv 2) (pv 0)))) pss_nil) (pss_cons (ps_set (i := 0) scPower.nd rfl (Or.inl rfl) (pe_op op_mulW (pv 0) (pv 0))) (pss_one (ps_set (i := 1) scPower.nd rfl (Or.inl rfl) (pe_op op_halfN (pv 1) pe_int)))))) (pss_one (ps_ret (pv 2))))), ?_⟩
    refine ⟨fun m σ H' => H' = H ∧ ∃ j, m = e / 2 ^ j ∧ σ = [some (.int (b ^ (2 ^ j))), some (.int ((e / 2 ^ j : Nat) : Int)), some (.int (b ^ (e % 2 ^ j)))], ⟨e, rfl, 0, by simp, by simp [L2.start, Nat.mod_one]; rw [Int.pow_succ, Int.pow_zero, Int.one_mul]⟩, ?_⟩
    rintro m σ H' ⟨rfl, j, rfl, rfl⟩
    refine ⟨_, rfl, _, _, rfl, rfl, _, rfl, ?_⟩
    by_cases hz : 0 < e / 2 ^ j
    · refine iteTb (decide_eq_true (by omega)) ?_
      have hj : 2 ^ j ≤ e := by
        by_cases hlt : e < 2 ^ j
        · rw [Nat.div_eq_of_lt hlt] at hz; omega
        · omega
      have hj1 : (b ^ (2 ^ j)).natAbs < 2 ^ 20481 := pow_small b0 b1 (by omega)
      have hm : e % 2 ^ j < 2 ^ j := Nat.mod_lt _ (Nat.pow_pos (by decide))
      have hr1 : (b ^ (e % 2 ^ j)).natAbs < 2 ^ 20481 := pow_small b0 b1 (by omega)
      refine ⟨fun σ' H2 => H2 = H' ∧ σ' = [some (.int (b ^ (2 ^ (j + 1)))), some (.int ((e / 2 ^ (j + 1) : Nat) : Int)), some (.int (b ^ (e % 2 ^ (j + 1))))], ?_, ?_⟩
      · rintro σ' H2 ⟨rfl, rfl⟩
        refine ⟨e / 2 ^ (j + 1), ?_, rfl, j + 1, rfl, rfl⟩
        rw [← half_div]
        omega
      · have e2 : b ^ 2 ^ j * b ^ 2 ^ j = b ^ 2 ^ (j + 1) := by
          rw [← Int.pow_add, Nat.pow_succ, Nat.mul_two]
        refine ⟨_, rfl, e / 2 ^ j, rfl, rfl, rfl, _, rfl, ?_⟩
        rcases Nat.mod_two_eq_zero_or_one (e / 2 ^ j) with h2 | h2
        · refine iteFb (decide_eq_false (by rw [h2]; intro z; cases z)) ?_
          refine ⟨_, rfl, _, rfl, _, _, rfl, rfl, wide_mul hj1 hj1 (by decide) (by decide) (by decide), ?_⟩
          refine ⟨_, rfl, e / 2 ^ j, rfl, rfl, rfl, ?_⟩
          rw [half_mod, h2, Nat.mul_zero, Nat.add_zero, ← half_div, ← e2]
          rfl
        · refine iteTb (decide_eq_true (by rw [h2]; rfl)) ?_
          refine ⟨_, rfl, _, rfl, _, _, rfl, rfl, wide_mul hr1 hj1 (by decide) (by decide) (by decide), ?_⟩
          refine ⟨_, rfl, _, rfl, _, _, rfl, rfl, wide_mul hj1 hj1 (by decide) (by decide) (by decide), ?_⟩
          refine ⟨_, rfl, e / 2 ^ j, rfl, rfl, rfl, ?_⟩
          rw [half_mod, h2, Nat.mul_one, Int.pow_add, ← half_div, ← e2]
          rfl
    · refine iteFb (decide_eq_false (by omega)) ?_
      have hlt : e % 2 ^ j = e := by
        refine Nat.mod_eq_of_lt ?_
        have := Nat.lt_div_mul_add (a := e) (b := 2 ^ j) (Nat.pow_pos (by decide))
        have h0 : e / 2 ^ j = 0 := Nat.eq_zero_of_not_pos hz
        rw [h0] at this
        omega
      refine ⟨_, rfl, ?_⟩
      rw [hlt]
      exact k
end
end RS
namespace RS
open PySem L2
def Tl.word : Tl → Str
  | .fin => "end"
  | .times _ => "times"
  | .rep _ => "repeat"
theorem Tl.at0 (tl : Tl) : atI tl.vs 0 = some (.str tl.word) := by cases tl <;> exact atI_nat (j := 0) rfl
theorem wEE : decide (V.str "end" = V.str "end") = true := by decide +kernel
theorem wET : decide (V.str "end" = V.str "times") = false := by decide +kernel
theorem wER : decide (V.str "end" = V.str "repeat") = false := by decide +kernel
theorem wTE : decide (V.str "times" = V.str "end") = false := by decide +kernel
theorem wTT : decide (V.str "times" = V.str "times") = true := by decide +kernel
theorem wTR : decide (V.str "times" = V.str "repeat") = false := by decide +kernel
theorem wRE : decide (V.str "repeat" = V.str "end") = false := by decide +kernel
theorem wRT : decide (V.str "repeat" = V.str "times") = false := by decide +kernel
theorem wRR : decide (V.str "repeat" = V.str "repeat") = true := by decide +kernel
def lastG (gs : List Int) : Int := gs.getD (gs.length - 1) 0
def per (gs : List Int) (m : Nat) : Int := pre gs gs.length - pre gs (gs.length - m)
def off (gs : List Int) (tl : Tl) (n : Nat) : Int :=
  if n ≤ gs.length then pre gs n else match tl with
  | .fin => 0
  | .times b => pre gs gs.length + lastG gs * b * (b ^ (n - gs.length) - 1) / (b - 1)
  | .rep m => pre gs (gs.length - m + (n - gs.length) % m) + (((n - gs.length) / m : Nat) + 1) * per gs m
def gapf (gs : List Int) (tl : Tl) (n : Nat) : Int :=
  if n < gs.length then gs.getD n 0 else match tl with
  | .fin => 0
  | .times b => lastG gs * b ^ (n - gs.length + 1)
  | .rep m => gs.getD (gs.length - m + (n - gs.length) % m) 0
/-- an attempt that is answered -/
def AttOk (gs : List Int) (tl : Tl) (n : Nat) : Prop := match tl with
  | .fin => n ≤ gs.length
  | .times _ => n ≤ 1000
  | .rep _ => True
theorem AttOk.low {gs : List Int} {tl : Tl} (okG : GapsOk gs) {n : Nat} (h : n ≤ gs.length) : AttOk gs tl n := by
  cases tl with
  | fin => exact h
  | times b => have := okG.1; show n ≤ 1000; omega
  | rep m => exact True.intro
theorem getD_get {gs : List Int} {k : Nat} (h : k < gs.length) : gs[k]? = some (gs.getD k 0) := by
  rw [List.getD_eq_getElem?_getD, List.getElem?_eq_getElem h]
  rfl
theorem gap_bd {gs : List Int} (ok : GapsOk gs) {k : Nat} (h : k < gs.length) : 1 ≤ gs.getD k 0 ∧ gs.getD k 0 ≤ 1000000000000 := ok.2 _ (List.mem_of_getElem? (getD_get h))
theorem pre_le {gs : List Int} (ok : GapsOk gs) : ∀ k, k ≤ gs.length → (k : Int) ≤ pre gs k ∧ pre gs k ≤ 1000000000000 * k
  | 0, _ => by rw [pre_zero]; omega
  | k + 1, h => by
    have ih := pre_le ok k (by omega)
    have b := gap_bd ok (k := k) (by omega)
    rw [pre_succ gs (getD_get (by omega))]
    omega
theorem pre_mono {gs : List Int} (ok : GapsOk gs) (i : Nat) : ∀ k, i + k ≤ gs.length → pre gs i + k ≤ pre gs (i + k)
  | 0, _ => by simp
  | k + 1, h => by
    have ih := pre_mono ok i k (by omega)
    have b := gap_bd ok (k := i + k) (by omega)
    rw [show i + (k + 1) = (i + k) + 1 by omega, pre_succ gs (getD_get (by omega))]
    omega
theorem per_bd {gs : List Int} (ok : GapsOk gs) {m : Nat} (h1 : 1 ≤ m) (h2 : m ≤ gs.length) : (m : Int) ≤ per gs m ∧ per gs m ≤ 20000000000000 := by
  have a := pre_mono ok (gs.length - m) m (by omega)
  have b := pre_le ok (gs.length - m) (by omega)
  have c := pre_le ok gs.length (Nat.le_refl _)
  have d := ok.1
  rw [show gs.length - m + m = gs.length by omega] at a
  unfold per
  omega

section
variable {P : Program} {w : World} {K : PySem.W.Frag} {mg : Str → Option Value} {base : Heap}
/-! ### a rule's attributes, read -/
section
variable {C p g t o : Addr} {gs : List Int} {tl : Tl} {H : Hp} {σ : L2.St} {i : Nat}
theorem rdG {Q : VK} (T : Txt K mg C) (R : RuleAt C H p g t o gs tl) (hi : σ[i]? = some (some (.ref p))) (q : Q (.ref g) H) : tFld K (tVar i) "_gaps" σ H Q := by
  obtain ⟨dx, h⟩ := R.ob
  exact ⟨_, hi, p, C, dx, _, _, rfl, h, T.cl, T.nG, flds_g _ _ _, q⟩
theorem rdT {Q : VK} (T : Txt K mg C) (R : RuleAt C H p g t o gs tl) (hi : σ[i]? = some (some (.ref p))) (q : Q (.ref t) H) : tFld K (tVar i) "_tail" σ H Q := by
  obtain ⟨dx, h⟩ := R.ob
  exact ⟨_, hi, p, C, dx, _, _, rfl, h, T.cl, T.nT, flds_t _ _ _, q⟩
theorem rdO {Q : VK} (T : Txt K mg C) (R : RuleAt C H p g t o gs tl) (hi : σ[i]? = some (some (.ref p))) (q : Q (.ref o) H) : tFld K (tVar i) "_offsets" σ H Q := by
  obtain ⟨dx, h⟩ := R.ob
  exact ⟨_, hi, p, C, dx, _, _, rfl, h, T.cl, T.nO, flds_o _ _ _, q⟩
theorem rdOx {te : TE} {Q : VK} (T : Txt K mg C) (R : RuleAt C H p g t o gs tl) (hi : σ[i]? = some (some (.ref p))) (q : te σ H fun y H2 => rIxL K (.ref o) y H2 Q) : tOp (rIxL K) (tFld K (tVar i) "_offsets") te σ H Q := by
  dsimp only [tOp]
  exact rdO T R hi q
theorem rdGx {te : TE} {Q : VK} (T : Txt K mg C) (R : RuleAt C H p g t o gs tl) (hi : σ[i]? = some (some (.ref p))) (q : te σ H fun y H2 => rIxL K (.ref g) y H2 Q) : tOp (rIxL K) (tFld K (tVar i) "_gaps") te σ H Q := by
  dsimp only [tOp]
  exact rdG T R hi q
theorem rdIs {s : Str} {Q : Bool → Hp → Prop} (T : Txt K mg C) (R : RuleAt C H p g t o gs tl) (hi : σ[i]? = some (some (.ref p))) (q : Q (decide (V.str tl.word = V.str s)) H) :
    tTest (tOp rEq (tOp (rIxT K) (tFld K (tVar i) "_tail") (tC (.int 0))) (tC (.str s))) σ H Q := by
  dsimp only [tTest, tOp]
  exact rdT T R hi ⟨t, _, _, _, rfl, rfl, SqT.of R.ht, tl.at0, rfl, _, rfl, q⟩
theorem rdNe {s : Str} {Q : Bool → Hp → Prop} (T : Txt K mg C) (R : RuleAt C H p g t o gs tl) (hi : σ[i]? = some (some (.ref p))) (q : Q (!decide (V.str tl.word = V.str s)) H) :
    tTest (tOp rNe (tOp (rIxT K) (tFld K (tVar i) "_tail") (tC (.int 0))) (tC (.str s))) σ H Q := by
  dsimp only [tTest, tOp]
  exact rdT T R hi ⟨t, _, _, _, rfl, rfl, SqT.of R.ht, tl.at0, rfl, _, rfl, q⟩
theorem rdB {b : Int} {Q : VK} (T : Txt K mg C) (R : RuleAt C H p g t o gs (.times b)) (hi : σ[i]? = some (some (.ref p))) (q : Q (.int b) H) : tOp (rIxT K) (tFld K (tVar i) "_tail") (tC (.int 1)) σ H Q :=
  rdT T R hi ⟨t, _, _, _, rfl, rfl, SqT.of R.ht, atI_nat (j := 1) rfl, q⟩
theorem rdN {m : Nat} {Q : VK} (T : Txt K mg C) (R : RuleAt C H p g t o gs (.rep m)) (hi : σ[i]? = some (some (.ref p))) (q : Q (.int (m : Int)) H) : tOp (rIxT K) (tFld K (tVar i) "_tail") (tC (.int 1)) σ H Q :=
  rdT T R hi ⟨t, _, _, _, rfl, rfl, SqT.of R.ht, atI_nat (j := 1) rfl, q⟩
theorem rdLast {Q : VK} (T : Txt K mg C) (R : RuleAt C H p g t o gs tl) (hi : σ[i]? = some (some (.ref p))) (h0 : 0 < gs.length) (q : Q (.int (lastG gs)) H) :
    tOp (rIxL K) (tFld K (tVar i) "_gaps") (tUn (rU fun i => .int (-i)) (tC (.int 1))) σ H Q :=
  rdG T R hi ⟨_, rfl, g, _, _, _, rfl, rfl, SqL.of R.hg, at_back1 (by rw [List.length_map]; exact h0) (by rw [List.length_map, List.getElem?_map, getD_get (by omega)]; rfl), q⟩
theorem rdLastO {Q : VK} (T : Txt K mg C) (R : RuleAt C H p g t o gs tl) (hi : σ[i]? = some (some (.ref p))) (q : Q (.int (pre gs gs.length)) H) :
    tOp (rIxL K) (tFld K (tVar i) "_offsets") (tUn (rU fun i => .int (-i)) (tC (.int 1))) σ H Q :=
  rdO T R hi ⟨_, rfl, o, _, _, _, rfl, rfl, SqL.of R.ho, at_back1 (by rw [List.length_map, offs_len]; omega) (by rw [List.length_map, offs_len, List.getElem?_map, offs_get gs (by omega)]; rfl), q⟩
end
/-! ### Rule.__init__ -/
def spInit (C : Addr) : Sp := fun vs H Q _ => ∃ (p dx a t : Addr) (gs : List Int) (tl : Tl), vs = [.ref p, .ref a, .ref t] ∧ H p = some (.ins C dx []) ∧ H a = some (.lst (gs.map V.int)) ∧ H t = some (.tup tl.vs) ∧ GapsOk gs ∧ TlOk gs.length tl ∧
  ∀ (g o : Addr) (H' : Hp), H g = none → H o = none → (∀ b u, H b = some u → b ≠ p → H' b = some u) → RuleAt C H' p g t o gs tl → Q .non H'
theorem scInit : FnScope ["self", "gaps", "tail"] ["self", "gaps", "tail"] (defScope s_Rule_ddinitdd) := ⟨rfl, rfl, rfl, by decide +kernel, rfl, by decide +kernel, by decide +kernel⟩
theorem ok_init {f C fA fB fS fi : Addr} {fd fdA fdB fdS fdi : FuncData} (F : Fun K "__init__" "Rule.__init__" s_Rule_ddinitdd f fd) (T : Txt K mg C) (FI : Fun K "is_integer" "is_integer" s_is_integer fi fdi) (bI : Binds K fdi ["value"] []) (mI : mg "is_integer" = some (.ref fi))
    (FA : Fun K "are_gaps" "are_gaps" s_are_gaps fA fdA) (bA : Binds K fdA ["value", "most"] []) (mA : mg "are_gaps" = some (.ref fA)) (FB : Fun K "_is_tail" "_is_tail" s_is_tail fB fdB) (bB : Binds K fdB ["value", "many"] []) (mB : mg "_is_tail" = some (.ref fB))
    (FS : Fun K "sums" "sums" s_sums fS fdS) (bS : Binds K fdS ["gaps"] []) (mS : mg "sums" = some (.ref fS)) : FnOk P w K mg base CX0 3 f fd ["self", "gaps", "tail"] (spInit C) := by
  have GA : FnOk P w K mg base CX0 2 fA fdA ["value", "most"] spAreGaps := ok_areGaps FA T FI bI mI
  have GB : FnOk P w K mg base CX0 2 fB fdB ["value", "many"] spIsTail := ok_isTail FB T FI bI mI
  have GS : FnOk P w K mg base CX0 1 fS fdS ["gaps"] spSums := ok_sums FS
  obtain ⟨t1, m1⟩ := T.mMost
  refine F.ok scInit (fun vs H Q E h => ?_) (fun cdv A outer s H vs Q E hr h => ?_)
  · obtain ⟨p, dx, a, t, gs, tl, rfl, _⟩ := h
    rfl
  · obtain ⟨p, dx, a, t, gs, tl, rfl, hp, ha, ht, okG, okT, k⟩ := h
    refine ⟨_, (pss_cons (ps_if (pt_not (pt_val (pe_call GA hr rfl mA FA.kp bA .nil pass0 (pa_cons (pv 1) (pa_cons (pe_glob (v := .int 20) rfl m1 ⟨_, rfl⟩) pa_nil))))) (pss_one ps_never) pss_nil) (pss_cons (ps_if (pt_not (pt_val (pe_call GB hr rfl mB FB.kp bB .nil pass0 (pa_cons (pv 2) (pa_cons (pe_callB call_len_seq (by rfl) T.len (by decide +kernel) (pa_cons (pv 1) pa_nil)) pa_nil))))) (pss_one ps_never) pss_nil) (pss_cons (ps_fld (pv 0) (pe_callTy call_list_of (by rfl) T.list (by decide +kernel) (pa_cons (pv 1) pa_nil)) rfl) (pss_cons (ps_fld (pv 0) (pe_callTy call_tuple_of (by rfl) T.tuple (by decide +kernel) (pa_cons (pv 2) pa_nil)) rfl) (pss_one (ps_fld (pv 0) (pe_call GS (hr.mono (by decide)) rfl mS FS.kp bS .nil pass0 (pa_cons (pe_fld (pv 0) rfl) pa_nil)) rfl)))))), ?_⟩
    refine ⟨_, rfl, a, gs, 20, rfl, ha, okG, okG.1, fun H1 S1 => ⟨true, rfl, iteF ?_⟩⟩
    refine ⟨_, rfl, _, rfl, a, _, rfl, .inl (SqL.of (S1 _ _ ha)), t, tl, gs.length, ?_, S1 _ _ ht, okT, fun H2 S2 => ⟨true, rfl, iteF ?_⟩⟩
    · rw [List.length_map]
      rfl
    have S := S1.trans S2
    refine ⟨_, rfl, a, _, rfl, .inl (SqL.of (S _ _ ha)), fun g hg2 => ?_⟩
    have hg : H g = none := S.free hg2
    have npg : p ≠ g := ne_of_none hp hg
    have ntg : t ≠ g := ne_of_none ht hg
    have nag : a ≠ g := ne_of_none ha hg
    have npt : t ≠ p := ne_of ht hp (by intro z; cases z)
    have npa : a ≠ p := ne_of ha hp (by intro z; cases z)
    refine ⟨_, rfl, p, C, dx, [], rfl, (by rw [upd_ne npg]; exact S _ _ hp), T.cl, T.nG, (by show 0 < 1000; decide), ?_⟩
    refine ⟨_, rfl, t, _, rfl, .inr ⟨SqT.of (by rw [upd_ne npt, upd_ne ntg]; exact S _ _ ht), ?_⟩⟩
    refine ⟨_, rfl, p, C, dx, _, rfl, upd_same, T.cl, T.nT, (by show 1 < 1000; decide), ?_⟩
    have hgl : (putF "_tail" (.ref t) (putF "_gaps" (.ref g) [])).lookup ("_gaps" : Str) = some (V.ref g) := by
      rw [lookup_putF, if_neg kGT, lookup_putF, if_pos rfl]
    refine ⟨_, rfl, p, C, dx, _, _, rfl, upd_same, T.cl, T.nG, hgl, ?_⟩
    refine ⟨g, gs, rfl, (by rw [upd_ne npg.symm, upd_ne npg.symm, upd_same]), (by have := okG.1; omega), fun o H3 ho S3 ho3 => ?_⟩
    have hp3 := S3 _ _ (upd_same (H := upd (upd H2 g (.lst (gs.map V.int))) p (.ins C dx (putF "_gaps" (.ref g) []))) (a := p) (o := .ins C dx (putF "_tail" (.ref t) (putF "_gaps" (.ref g) []))))
    have npo : p ≠ o := ne_of_none (upd_same (H := upd (upd H2 g (.lst (gs.map V.int))) p (.ins C dx (putF "_gaps" (.ref g) []))) (a := p)) ho
    have ngo : g ≠ o := by
      refine ne_of_none (H := upd (upd (upd H2 g (.lst (gs.map V.int))) p (.ins C dx (putF "_gaps" (.ref g) []))) p (.ins C dx (putF "_tail" (.ref t) (putF "_gaps" (.ref g) [])))) (o := .lst (gs.map V.int)) ?_ ho
      rw [upd_ne npg.symm, upd_ne npg.symm, upd_same]
    have hoH : H o = none := by
      refine S.free ?_
      rw [upd_ne npo.symm, upd_ne npo.symm, upd_ne ngo.symm] at ho
      exact ho
    refine ⟨_, rfl, p, C, dx, _, rfl, hp3, T.cl, T.nO, (by show 2 < 1000; decide), ?_⟩
    refine k g o _ hg hoH (fun b u e nb => ?_) ⟨⟨dx, upd_same⟩, ?_, ?_, ?_, okG, okT⟩
    · rw [upd_ne nb]
      refine S3 _ _ ?_
      rw [upd_ne nb, upd_ne nb, upd_ne (ne_of_none e hg)]
      exact S _ _ e
    · rw [upd_ne npg.symm]
      refine S3 _ _ ?_
      rw [upd_ne npg.symm, upd_ne npg.symm, upd_same]
    · rw [upd_ne npt]
      refine S3 _ _ ?_
      rw [upd_ne npt, upd_ne npt, upd_ne ntg]
      exact S _ _ ht
    · rw [upd_ne npo.symm]
      exact ho3

end
end RS
namespace RS
open PySem L2
section
variable {P : Program} {w : World} {K : PySem.W.Frag} {mg : Str → Option Value} {base : Heap}
/-! ### attempts, _first_repeating, period -/
def attV (gs : List Int) : Tl → V
  | .fin => .int ((gs.length : Int) + 1)
  | _ => .non
def spAtt (C : Addr) : Sp := fun vs H Q _ => ∃ (p g t o : Addr) (gs : List Int) (tl : Tl), vs = [.ref p] ∧ RuleAt C H p g t o gs tl ∧ Q (attV gs tl) H
theorem scSelf_attempts : FnScope ["self"] ["self"] (defScope s_Rule_attempts) := ⟨rfl, rfl, rfl, by decide +kernel, rfl, by decide +kernel, by decide +kernel⟩
theorem ok_attempts {f C : Addr} {fd : FuncData} (F : Fun K "attempts" "Rule.attempts" s_Rule_attempts f fd) (T : Txt K mg C) : FnOk P w K mg base CX0 1 f fd ["self"] (spAtt C) := by
  refine F.ok scSelf_attempts (fun vs H Q E h => ?_) (fun cdv A outer s H vs Q E hr h => ?_)
  · obtain ⟨p, g, t, o, gs, tl, rfl, _⟩ := h
    rfl
  · obtain ⟨p, g, t, o, gs, tl, rfl, R, k⟩ := h
    refine ⟨_, (pss_cons (ps_if (pt_cmpR op_eq (pe_ix ix_tup (pe_fld (pv 0) rfl) pe_int (fun _ _ => rfl)) pe_str (nomark _)) (pss_one (ps_ret (pe_callB call_len_seq (by rfl) T.len (by decide +kernel) (pa_cons (pe_fld (pv 0) rfl) pa_nil)))) pss_nil) (pss_one (ps_ret pe_non))), ?_⟩
    refine rdIs T R rfl ?_
    cases tl with
    | fin =>
      refine iteTb wEE ?_
      refine rdO T R rfl ⟨o, _, rfl, .inl (SqL.of R.ho), ?_⟩
      rw [List.length_map, offs_len]
      exact k
    | times b => exact iteFb wTE k
    | rep m => exact iteFb wRE k
def spFR (C : Addr) : Sp := fun vs H Q _ => ∃ (p g t o : Addr) (gs : List Int) (m : Nat), vs = [.ref p] ∧ RuleAt C H p g t o gs (.rep m) ∧ Q (.int ((gs.length - m : Nat) : Int)) H
theorem scSelf_fr : FnScope ["self"] ["self"] (defScope s_Rule_first_repeating) := ⟨rfl, rfl, rfl, by decide +kernel, rfl, by decide +kernel, by decide +kernel⟩
def frV (gs : List Int) : Tl → V
  | .rep m => .int ((gs.length - m : Nat) : Int)
  | _ => .non
def spFRA (C : Addr) : Sp := fun vs H Q _ => ∃ (p g t o : Addr) (gs : List Int) (tl : Tl), vs = [.ref p] ∧ RuleAt C H p g t o gs tl ∧ Q (frV gs tl) H
theorem ok_frA {f C : Addr} {fd : FuncData} (F : Fun K "first_repeating" "Rule.first_repeating" s_Rule_first_repeating f fd) (T : Txt K mg C) : FnOk P w K mg base CX0 1 f fd ["self"] (spFRA C) := by
  refine F.ok scSelf_fr (fun vs H Q E h => ?_) (fun cdv A outer s H vs Q E hr h => ?_)
  · obtain ⟨p, g, t, o, gs, tl, rfl, _⟩ := h
    rfl
  · obtain ⟨p, g, t, o, gs, tl, rfl, R, k⟩ := h
    refine ⟨_, (pss_cons (ps_if (pt_cmpR op_ne (pe_ix ix_tup (pe_fld (pv 0) rfl) pe_int (fun _ _ => rfl)) pe_str (nomark _)) (pss_one (ps_ret pe_non)) pss_nil) (pss_one (ps_ret (pe_op op_sub (pe_callB call_len_seq (by rfl) T.len (by decide +kernel) (pa_cons (pe_fld (pv 0) rfl) pa_nil)) (pe_ix ix_tup (pe_fld (pv 0) rfl) pe_int (fun _ _ => rfl)))))), ?_⟩
    refine rdNe T R rfl ?_
    cases tl with
    | fin => exact iteTb (congrArg not wER) k
    | times b => exact iteTb (congrArg not wTR) k
    | rep m =>
      refine iteFb (congrArg not wRR) ?_
      refine rdG T R rfl ⟨g, _, rfl, .inl (SqL.of R.hg), rdN T R rfl ⟨_, _, rfl, rfl, ?_⟩⟩
      have e : ((((gs.map V.int).length : Nat) : Int) - (m : Int)) = ((gs.length - m : Nat) : Int) := by
        have := R.okT.2
        rw [List.length_map]
        omega
      have k' : Q (.int ((gs.length - m : Nat) : Int)) H := k
      rw [← e] at k'
      exact k'
theorem ok_fr {f C : Addr} {fd : FuncData} (F : Fun K "first_repeating" "Rule.first_repeating" s_Rule_first_repeating f fd) (T : Txt K mg C) : FnOk P w K mg base CX0 1 f fd ["self"] (spFR C) := by
  refine F.ok scSelf_fr (fun vs H Q E h => ?_) (fun cdv A outer s H vs Q E hr h => ?_)
  · obtain ⟨p, g, t, o, gs, tl, rfl, _⟩ := h
    rfl
  · obtain ⟨p, g, t, o, gs, m, rfl, R, k⟩ := h
    refine ⟨_, (pss_cons (ps_if (pt_cmpR op_ne (pe_ix ix_tup (pe_fld (pv 0) rfl) pe_int (fun _ _ => rfl)) pe_str (nomark _)) (pss_one (ps_ret pe_non)) pss_nil) (pss_one (ps_ret (pe_op op_sub (pe_callB call_len_seq (by rfl) T.len (by decide +kernel) (pa_cons (pe_fld (pv 0) rfl) pa_nil)) (pe_ix ix_tup (pe_fld (pv 0) rfl) pe_int (fun _ _ => rfl)))))), ?_⟩
    refine rdNe T R rfl (iteFb (congrArg not wRR) ?_)
    refine rdG T R rfl ⟨g, _, rfl, .inl (SqL.of R.hg), rdN T R rfl ⟨_, _, rfl, rfl, ?_⟩⟩
    have e : ((((gs.map V.int).length : Nat) : Int) - (m : Int)) = ((gs.length - m : Nat) : Int) := by
      have := R.okT.2
      rw [List.length_map]
      omega
    rw [← e] at k
    exact k
end
end RS
namespace RS
open PySem L2
section
variable {P : Program} {w : World} {K : PySem.W.Frag} {mg : Str → Option Value} {base : Heap}
def perV (gs : List Int) : Tl → V
  | .rep m => .int (per gs m)
  | _ => .non
def spPer (C : Addr) : Sp := fun vs H Q _ => ∃ (p g t o : Addr) (gs : List Int) (tl : Tl), vs = [.ref p] ∧ RuleAt C H p g t o gs tl ∧ Q (perV gs tl) H
theorem scSelf_per : FnScope ["self"] ["self"] (defScope s_Rule_period) := ⟨rfl, rfl, rfl, by decide +kernel, rfl, by decide +kernel, by decide +kernel⟩
theorem ok_per {f C fR : Addr} {fd fdR : FuncData} (F : Fun K "period" "Rule.period" s_Rule_period f fd) (T : Txt K mg C) (FR : Fun K "first_repeating" "Rule.first_repeating" s_Rule_first_repeating fR fdR) (bR : Binds K fdR ["self"] []) (mR : Meth K C "first_repeating" fR) : FnOk P w K mg base CX0 2 f fd ["self"] (spPer C) := by
  have GR : FnOk P w K mg base CX0 1 fR fdR ["self"] (spFR C) := ok_fr FR T
  refine F.ok scSelf_per (fun vs H Q E h => ?_) (fun cdv A outer s H vs Q E hr h => ?_)
  · obtain ⟨p, g, t, o, gs, tl, rfl, _⟩ := h
    rfl
  · obtain ⟨p, g, t, o, gs, tl, rfl, R, k⟩ := h
    refine ⟨_, (pss_cons (ps_if (pt_cmpR op_ne (pe_ix ix_tup (pe_fld (pv 0) rfl) pe_int (fun _ _ => rfl)) pe_str (nomark _)) (pss_one (ps_ret pe_non)) pss_nil) (pss_one (ps_ret (pe_op op_sub (pe_ix ix_list (pe_fld (pv 0) rfl) (pe_un un_neg pe_int) (fun _ _ => rfl)) (pe_ix ix_list (pe_fld (pv 0) rfl) (pe_meth0 (pv 0) T.cl mR GR hr bR .nil pass0) (fun _ _ => rfl)))))), ?_⟩
    refine rdNe T R rfl ?_
    cases tl with
    | fin => exact iteTb (congrArg not wER) k
    | times b => exact iteTb (congrArg not wTR) k
    | rep m =>
      refine iteFb (congrArg not wRR) ?_
      refine rdLastO T R rfl (rdO T R rfl ?_)
      obtain ⟨dx, hob⟩ := R.ob
      refine ⟨_, rfl, p, dx, _, rfl, hob, flds_no _ _ _ (by decide +kernel) (by decide +kernel) (by decide +kernel), p, g, t, o, gs, m, rfl, R, ?_⟩
      exact ⟨o, _, _, _, rfl, rfl, SqL.of R.ho, at_map (offs_get gs (by omega)), _, _, rfl, rfl, k⟩
end
end RS
namespace RS
open PySem L2
section
variable {P : Program} {w : World} {K : PySem.W.Frag} {mg : Str → Option Value} {base : Heap}
/-! ### Rule.gaps, tail, least_gap -/
def spGaps (C : Addr) : Sp := fun vs H Q _ => ∃ (p g t o : Addr) (gs : List Int) (tl : Tl), vs = [.ref p] ∧ RuleAt C H p g t o gs tl ∧ ∀ l, H l = none → Q (.ref l) (upd H l (.lst (gs.map V.int)))
theorem scGaps : FnScope ["self"] ["self"] (defScope s_Rule_gaps) := ⟨rfl, rfl, rfl, by decide +kernel, rfl, by decide +kernel, by decide +kernel⟩
theorem ok_gaps {f C : Addr} {fd : FuncData} (F : Fun K "gaps" "Rule.gaps" s_Rule_gaps f fd) (T : Txt K mg C) : FnOk P w K mg base CX0 1 f fd ["self"] (spGaps C) := by
  refine F.ok scGaps (fun vs H Q E h => ?_) (fun cdv A outer s H vs Q E hr h => ?_)
  · obtain ⟨p, g, t, o, gs, tl, rfl, _⟩ := h
    rfl
  · obtain ⟨p, g, t, o, gs, tl, rfl, R, k⟩ := h
    refine ⟨_, (pss_one (ps_ret (pe_callTy call_list_of (by rfl) T.list (by decide +kernel) (pa_cons (pe_fld (pv 0) rfl) pa_nil)))), ?_⟩
    exact rdG T R rfl ⟨g, _, rfl, .inl (SqL.of R.hg), k⟩
def spTail (C : Addr) : Sp := fun vs H Q _ => ∃ (p g t o : Addr) (gs : List Int) (tl : Tl), vs = [.ref p] ∧ RuleAt C H p g t o gs tl ∧ Q (.ref t) H
theorem scTail : FnScope ["self"] ["self"] (defScope s_Rule_tail) := ⟨rfl, rfl, rfl, by decide +kernel, rfl, by decide +kernel, by decide +kernel⟩
theorem ok_tail {f C : Addr} {fd : FuncData} (F : Fun K "tail" "Rule.tail" s_Rule_tail f fd) (T : Txt K mg C) : FnOk P w K mg base CX0 1 f fd ["self"] (spTail C) := by
  refine F.ok scTail (fun vs H Q E h => ?_) (fun cdv A outer s H vs Q E hr h => ?_)
  · obtain ⟨p, g, t, o, gs, tl, rfl, _⟩ := h
    rfl
  · obtain ⟨p, g, t, o, gs, tl, rfl, R, k⟩ := h
    refine ⟨_, (pss_one (ps_ret (pe_fld (pv 0) rfl))), ?_⟩
    exact rdT T R rfl k
end
end RS
namespace RS
open PySem L2
section
variable {P : Program} {w : World} {K : PySem.W.Frag} {mg : Str → Option Value} {base : Heap}
theorem end_cmp {p : Prop} [Decidable p] {A B : Prop} (hp : ¬ p) (h : B) : if decide p = true then A else B := iteFb (decide_eq_false hp) h
/-! ### _check_attempt -/
def spCheck (C : Addr) : Sp := fun vs H Q _ => ∃ (p g t o : Addr) (gs : List Int) (tl : Tl) (n : Nat), vs = [.ref p, .int (n : Int)] ∧ RuleAt C H p g t o gs tl ∧ AttOk gs tl n ∧ Q .non H
theorem scCheck : FnScope ["self", "attempt"] ["self", "attempt"] (defScope s_Rule_check_attempt) := ⟨rfl, rfl, rfl, by decide +kernel, rfl, by decide +kernel, by decide +kernel⟩
theorem ok_check {f C fi : Addr} {fd fdi : FuncData} (F : Fun K "_check_attempt" "Rule._check_attempt" s_Rule_check_attempt f fd) (T : Txt K mg C) (FI : Fun K "is_integer" "is_integer" s_is_integer fi fdi) (bI : Binds K fdi ["value"] []) (mI : mg "is_integer" = some (.ref fi)) :
    FnOk P w K mg base CX0 2 f fd ["self", "attempt"] (spCheck C) := by
  have GI : FnOk P w K mg base CX0 1 fi fdi ["value"] spIsInt := ok_isInt FI T
  obtain ⟨t1, m1⟩ := T.mLast
  refine F.ok scCheck (fun vs H Q E h => ?_) (fun cdv A outer s H vs Q E hr h => ?_)
  · obtain ⟨p, g, t, o, gs, tl, n, rfl, _⟩ := h
    rfl
  · obtain ⟨p, g, t, o, gs, tl, n, rfl, R, ok, k⟩ := h
    refine ⟨_, (pss_cons (ps_if (PW.pt (pw_or (pt_not (pt_val (pe_call GI hr rfl mI FI.kp bI .nil pass0 (pa_cons (pv 1) pa_nil)))) (pw_or1 (pt_cmpR op_lt (pv 1) pe_int (nomark _))))) (pss_one ps_never) pss_nil) (pss_cons (ps_if (PW.pt (pw_and (pt_cmpR op_eq (pe_ix ix_tup (pe_fld (pv 0) rfl) pe_int (fun _ _ => rfl)) pe_str (nomark _)) (pw_and1 (pt_cmpR op_ge (pv 1) (pe_callB call_len_seq (by rfl) T.len (by decide +kernel) (pa_cons (pe_fld (pv 0) rfl) pa_nil)) (nomark _))))) (pss_one ps_never) pss_nil) (pss_one (ps_if (PW.pt (pw_and (pt_cmpR op_eq (pe_ix ix_tup (pe_fld (pv 0) rfl) pe_int (fun _ _ => rfl)) pe_str (nomark _)) (pw_and1 (pt_cmpR op_gt (pv 1) (pe_glob (v := .int 1000) rfl m1 ⟨_, rfl⟩) (nomark _))))) (pss_one ps_never) pss_nil)))), ?_⟩
    refine ⟨_, rfl, _, rfl, true, rfl, iteF ⟨_, rfl, _, _, rfl, rfl, _, rfl, iteFb (decide_eq_false (by omega)) ?_⟩⟩
    refine rdIs T R rfl ?_
    cases tl with
    | fin =>
      refine iteTb wEE ?_
      refine ⟨_, rfl, rdO T R rfl ⟨o, _, rfl, .inl (SqL.of R.ho), _, _, rfl, rfl, _, rfl, iteFb (decide_eq_false ?_) ?_⟩⟩
      · rw [List.length_map, offs_len]
        have : n ≤ gs.length := ok
        omega
      · exact rdIs T R rfl (iteFb wET (iteF k))
    | times b =>
      refine iteFb wTE ?_
      refine iteF ?_
      refine rdIs T R rfl (iteTb wTT ⟨_, rfl, _, _, rfl, rfl, _, rfl, iteFb (decide_eq_false ?_) k⟩)
      have : n ≤ 1000 := ok
      omega
    | rep m =>
      refine iteFb wRE ?_
      refine iteF ?_
      exact rdIs T R rfl (iteFb wRT (iteF k))
/-! ### _offset_of -/
def spOff (C : Addr) : Sp := fun vs H Q _ => ∃ (p g t o : Addr) (gs : List Int) (tl : Tl) (n : Nat), vs = [.ref p, .int (n : Int)] ∧ RuleAt C H p g t o gs tl ∧ AttOk gs tl n ∧ ∀ H', Same H H' → Q (.int (off gs tl n)) H'
theorem scOff : FnScope ["self", "attempt", "further", "factor", "periods", "rest"] ["self", "attempt"] (defScope s_Rule_offset_of) := ⟨rfl, rfl, rfl, by decide +kernel, rfl, by decide +kernel, by decide +kernel⟩
theorem ok_off {f C fR fP fW : Addr} {fd fdR fdP fdW : FuncData} (F : Fun K "_offset_of" "Rule._offset_of" s_Rule_offset_of f fd) (T : Txt K mg C) (FR : Fun K "first_repeating" "Rule.first_repeating" s_Rule_first_repeating fR fdR) (bR : Binds K fdR ["self"] []) (mR : Meth K C "first_repeating" fR)
    (FP : Fun K "period" "Rule.period" s_Rule_period fP fdP) (bP : Binds K fdP ["self"] []) (mP : Meth K C "period" fP) (FW : Fun K "_power" "_power" s_power fW fdW) (bW : Binds K fdW ["base", "exponent"] []) (mW : mg "_power" = some (.ref fW)) :
    FnOk P w K mg base CX0 3 f fd ["self", "attempt"] (spOff C) := by
  have GR : FnOk P w K mg base CX0 1 fR fdR ["self"] (spFR C) := ok_fr FR T
  have GP : FnOk P w K mg base CX0 2 fP fdP ["self"] (spPer C) := ok_per FP T FR bR mR
  have GW : FnOk P w K mg base CX0 1 fW fdW ["base", "exponent"] spPower := ok_power FW
  refine F.ok scOff (fun vs H Q E h => ?_) (fun cdv A outer s H vs Q E hr h => ?_)
  · obtain ⟨p, g, t, o, gs, tl, n, rfl, _⟩ := h
    rfl
  · obtain ⟨p, g, t, o, gs, tl, n, rfl, R, ok, k⟩ := h
    have hr1 := hr.mono (show 1 ≤ 2 by decide)
    refine ⟨_, (pss_cons (ps_if (pt_cmpR op_lt (pv 1) (pe_callB call_len_seq (by rfl) T.len (by decide +kernel) (pa_cons (pe_fld (pv 0) rfl) pa_nil)) (nomark _)) (pss_one (ps_ret (pe_ix ix_list (pe_fld (pv 0) rfl) (pv 1) (fun _ _ => rfl)))) pss_nil) (pss_cons (ps_set (i := 2) scOff.nd rfl (Or.inl rfl) (pe_op op_sub (pv 1) (pe_callB call_len_seq (by rfl) T.len (by decide +kernel) (pa_cons (pe_fld (pv 0) rfl) pa_nil)))) (pss_cons (ps_if (pt_cmpR op_eq (pe_ix ix_tup (pe_fld (pv 0) rfl) pe_int (fun _ _ => rfl)) pe_str (nomark _)) (pss_cons (ps_set (i := 3) scOff.nd rfl (Or.inl rfl) (pe_ix ix_tup (pe_fld (pv 0) rfl) pe_int (fun _ _ => rfl))) (pss_one (ps_ret (pe_op op_add (pe_ix ix_list (pe_fld (pv 0) rfl) (pe_un un_neg pe_int) (fun _ _ => rfl)) (pe_op op_fdiv (pe_op op_mul (pe_op op_mul (pe_ix ix_list (pe_fld (pv 0) rfl) (pe_un un_neg pe_int) (fun _ _ => rfl)) (pv 3)) (pe_op op_sub (pe_call GW hr1 rfl mW FW.kp bW .nil pass0 (pa_cons (pv 3) (pa_cons (pv 2) pa_nil))) pe_int)) (pe_op op_sub (pv 3) pe_int)))))) pss_nil) (pss_cons (ps_asg (pe_callB call_divmod (by rfl) T.divmod (by decide +kernel) (pa_cons (pv 2) (pa_cons (pe_ix ix_tup (pe_fld (pv 0) rfl) pe_int (fun _ _ => rfl)) pa_nil))) (pg_tup rfl (pgs_cons (pg_name (i := 4) scOff.nd rfl (Or.inl rfl)) (pgs_cons (pg_name (i := 5) scOff.nd rfl (Or.inl rfl)) pgs_nil)))) (pss_one (ps_ret (pe_op op_add (pe_ix ix_list (pe_fld (pv 0) rfl) (pe_op op_add (pe_meth0 (pv 0) T.cl mR GR hr1 bR .nil pass0) (pv 5)) (fun _ _ => rfl)) (pe_op op_mul (pe_op op_add (pv 4) pe_int) (pe_meth0 (pv 0) T.cl mP GP hr bP .nil pass0))))))))), ?_⟩
    refine ⟨_, rfl, rdO T R rfl ⟨o, _, rfl, .inl (SqL.of R.ho), _, _, rfl, rfl, _, rfl, ?_⟩⟩
    rw [List.length_map, offs_len]
    by_cases hn : n ≤ gs.length
    · refine iteTb (decide_eq_true (by omega)) ?_
      refine rdOx T R rfl ⟨_, rfl, o, _, _, _, rfl, rfl, SqL.of R.ho, at_map (offs_get gs hn), ?_⟩
      have e : off gs tl n = pre gs n := if_pos hn
      rw [← e]
      exact k H (Same.refl H)
    · refine end_cmp (by omega) ?_
      refine ⟨_, rfl, ?_⟩
      refine rdG T R rfl ⟨g, _, rfl, .inl (SqL.of R.hg), _, _, rfl, rfl, ?_⟩
      have ef : ((n : Int) - (((gs.map V.int).length : Nat) : Int)) = ((n - gs.length : Nat) : Int) := by
        rw [List.length_map]
        omega
      show tSeq _ _ _ (List.set _ 2 (some (V.int ((n : Int) - (((gs.map V.int).length : Nat) : Int))))) H
      rw [ef]
      refine rdIs T R rfl ?_
      cases tl with
      | fin => exact absurd ok hn
      | times b =>
        have hl := R.okT.1
        have hb0 := R.okT.2.1
        have hb1 := R.okT.2.2
        have hn1 : n ≤ 1000 := ok
        have hg := gap_bd R.okG (k := gs.length - 1) (by omega)
        have hg : 1 ≤ lastG gs ∧ lastG gs ≤ 1000000000000 := hg
        have hgb1 : lastG gs * b ≤ 1000000000000 * 1000 := Int.mul_le_mul hg.2 hb1 (by omega) (by omega)
        have hgb0 : 0 ≤ lastG gs * b := Int.mul_nonneg (by omega) (by omega)
        refine iteTb wTT ?_
        refine rdB T R rfl ?_
        refine rdLastO T R rfl ?_
        refine rdLast T R rfl hl ⟨_, rfl, _, _, rfl, rfl, .inl ⟨by omega, by omega⟩, ?_⟩
        refine ⟨_, rfl, _, rfl, b, n - gs.length, rfl, by omega, by omega, by omega, _, _, rfl, rfl, _, _, rfl, rfl, .inl ⟨by omega, by omega⟩, ?_⟩
        refine ⟨_, rfl, _, _, rfl, rfl, _, _, rfl, rfl, ⟨by omega, by omega⟩, _, _, rfl, rfl, ?_⟩
        have e : off gs (.times b) n = pre gs gs.length + lastG gs * b * (b ^ (n - gs.length) - 1) / (b - 1) := if_neg hn
        rw [e] at k
        exact k H (Same.refl H)
      | rep m =>
        have hm0 := R.okT.1
        have hm1 := R.okT.2
        have hp := per_bd R.okG hm0 hm1
        refine iteFb wRT ?_
        refine ⟨_, rfl, ?_⟩
        refine rdN T R rfl ⟨_, _, rfl, ⟨by omega, by have := R.okG.1; omega⟩, fun q hq => ?_⟩
        have S : Same H (upd H q (.tup [.int (((n - gs.length : Nat) : Int) / (m : Int)), .int (((n - gs.length : Nat) : Int) % (m : Int))])) := same_new hq
        have R2 := R.mono S
        refine ⟨q, _, rfl, SqT.of upd_same, rfl, _, _, rfl, _, _, rfl, rfl, ?_⟩
        obtain ⟨dx, hob⟩ := R2.ob
        have e1 : (((n - gs.length : Nat) : Int) % (m : Int)) = (((n - gs.length) % m : Nat) : Int) := rfl
        have e2 : (((n - gs.length : Nat) : Int) / (m : Int)) = (((n - gs.length) / m : Nat) : Int) := rfl
        have hr0 : (n - gs.length) % m < m := Nat.mod_lt _ (by omega)
        have nF : (flds g t o).lookup ("first_repeating" : Str) = none := flds_no _ _ _ (by decide +kernel) (by decide +kernel) (by decide +kernel)
        have nP : (flds g t o).lookup ("period" : Str) = none := flds_no _ _ _ (by decide +kernel) (by decide +kernel) (by decide +kernel)
        refine rdOx T R2 rfl ⟨_, rfl, p, dx, _, rfl, hob, nF, p, g, t, o, gs, m, rfl, R2, _, rfl, _, _, rfl, rfl, ?_⟩
        refine ⟨o, _, _, .int (pre gs (gs.length - m + (n - gs.length) % m)), rfl, rfl, SqL.of R2.ho, ?_, ?_⟩
        · rw [e1, ← Int.natCast_add]
          exact at_map (offs_get gs (by omega))
        · refine ⟨_, rfl, _, _, rfl, rfl, _, rfl, p, dx, _, rfl, hob, nP, p, g, t, o, gs, .rep m, rfl, R2, ?_⟩
          refine ⟨_, _, rfl, rfl, .inr ⟨by omega, by omega⟩, _, _, rfl, rfl, ?_⟩
          have e : off gs (.rep m) n = pre gs (gs.length - m + (n - gs.length) % m) + (((n - gs.length) / m : Nat) + 1) * per gs m := if_neg hn
          rw [e] at k
          exact k _ S
/-! ### offset -/
theorem scOffset : FnScope ["self", "attempt"] ["self", "attempt"] (defScope s_Rule_offset) := ⟨rfl, rfl, rfl, by decide +kernel, rfl, by decide +kernel, by decide +kernel⟩
theorem ok_offset {f C fC fO : Addr} {fd fdC fdO : FuncData} (F : Fun K "offset" "Rule.offset" s_Rule_offset f fd) (T : Txt K mg C) (mC : Meth K C "_check_attempt" fC) (bC : Binds K fdC ["self", "attempt"] []) (mO : Meth K C "_offset_of" fO) (bO : Binds K fdO ["self", "attempt"] [])
    (GC : FnOk P w K mg base CX0 2 fC fdC ["self", "attempt"] (spCheck C)) (GO : FnOk P w K mg base CX0 3 fO fdO ["self", "attempt"] (spOff C)) : FnOk P w K mg base CX0 4 f fd ["self", "attempt"] (spOff C) := by
  refine F.ok scOffset (fun vs H Q E h => ?_) (fun cdv A outer s H vs Q E hr h => ?_)
  · obtain ⟨p, g, t, o, gs, tl, n, rfl, _⟩ := h
    rfl
  · obtain ⟨p, g, t, o, gs, tl, n, rfl, R, ok, k⟩ := h
    refine ⟨_, (pss_cons (ps_expr (pe_meth (pv 0) T.cl mC GC (hr.mono (by decide)) bC .nil pass0 (pa_cons (pv 1) pa_nil))) (pss_one (ps_ret (pe_meth (pv 0) T.cl mO GO hr bO .nil pass0 (pa_cons (pv 1) pa_nil))))), ?_⟩
    obtain ⟨dx, hob⟩ := R.ob
    refine ⟨_, rfl, p, dx, _, rfl, hob, flds_no _ _ _ (by decide +kernel) (by decide +kernel) (by decide +kernel), _, rfl, p, g, t, o, gs, tl, n, rfl, R, ok, ?_⟩
    exact ⟨_, rfl, p, dx, _, rfl, hob, flds_no _ _ _ (by decide +kernel) (by decide +kernel) (by decide +kernel), _, rfl, p, g, t, o, gs, tl, n, rfl, R, ok, k⟩
/-! ### gap -/
def spGap (C : Addr) : Sp := fun vs H Q _ => ∃ (p g t o : Addr) (gs : List Int) (tl : Tl) (n : Nat), vs = [.ref p, .int (n : Int)] ∧ RuleAt C H p g t o gs tl ∧ AttOk gs tl n ∧ (tl = .fin → n < gs.length) ∧ Q (.int (gapf gs tl n)) H
theorem scGap : FnScope ["self", "attempt", "further"] ["self", "attempt"] (defScope s_Rule_gap) := ⟨rfl, rfl, rfl, by decide +kernel, rfl, by decide +kernel, by decide +kernel⟩
theorem ok_gap {f C fC fA fR fW : Addr} {fd fdC fdA fdR fdW : FuncData} (F : Fun K "gap" "Rule.gap" s_Rule_gap f fd) (T : Txt K mg C) (mC : Meth K C "_check_attempt" fC) (bC : Binds K fdC ["self", "attempt"] [])
    (GC : FnOk P w K mg base CX0 2 fC fdC ["self", "attempt"] (spCheck C)) (FA : Fun K "attempts" "Rule.attempts" s_Rule_attempts fA fdA) (bA : Binds K fdA ["self"] []) (mA : Meth K C "attempts" fA)
    (FR : Fun K "first_repeating" "Rule.first_repeating" s_Rule_first_repeating fR fdR) (bR : Binds K fdR ["self"] []) (mR : Meth K C "first_repeating" fR)
    (FW : Fun K "_power" "_power" s_power fW fdW) (bW : Binds K fdW ["base", "exponent"] []) (mW : mg "_power" = some (.ref fW)) : FnOk P w K mg base CX0 3 f fd ["self", "attempt"] (spGap C) := by
  have GA : FnOk P w K mg base CX0 1 fA fdA ["self"] (spAtt C) := ok_attempts FA T
  have GR : FnOk P w K mg base CX0 1 fR fdR ["self"] (spFR C) := ok_fr FR T
  have GW : FnOk P w K mg base CX0 1 fW fdW ["base", "exponent"] spPower := ok_power FW
  refine F.ok scGap (fun vs H Q E h => ?_) (fun cdv A outer s H vs Q E hr h => ?_)
  · obtain ⟨p, g, t, o, gs, tl, n, rfl, _⟩ := h
    rfl
  · obtain ⟨p, g, t, o, gs, tl, n, rfl, R, ok, okf, k⟩ := h
    have hr1 := hr.mono (show 1 ≤ 2 by decide)
    refine ⟨_, (pss_cons (ps_expr (pe_meth (pv 0) T.cl mC GC hr bC .nil pass0 (pa_cons (pv 1) pa_nil))) (pss_cons (ps_if (pt_cmpR op_eq (pe_op op_add (pv 1) pe_int) (pe_meth0 (pv 0) T.cl mA GA hr1 bA .nil pass0) (nomark _)) (pss_one ps_never) pss_nil) (pss_cons (ps_if (pt_cmpR op_lt (pv 1) (pe_callB call_len_seq (by rfl) T.len (by decide +kernel) (pa_cons (pe_fld (pv 0) rfl) pa_nil)) (nomark _)) (pss_one (ps_ret (pe_ix ix_list (pe_fld (pv 0) rfl) (pv 1) (fun _ _ => rfl)))) pss_nil) (pss_cons (ps_set (i := 2) scGap.nd rfl (Or.inl rfl) (pe_op op_sub (pv 1) (pe_callB call_len_seq (by rfl) T.len (by decide +kernel) (pa_cons (pe_fld (pv 0) rfl) pa_nil)))) (pss_cons (ps_if (pt_cmpR op_eq (pe_ix ix_tup (pe_fld (pv 0) rfl) pe_int (fun _ _ => rfl)) pe_str (nomark _)) (pss_one (ps_ret (pe_op op_mul (pe_ix ix_list (pe_fld (pv 0) rfl) (pe_un un_neg pe_int) (fun _ _ => rfl)) (pe_call GW hr1 rfl mW FW.kp bW .nil pass0 (pa_cons (pe_ix ix_tup (pe_fld (pv 0) rfl) pe_int (fun _ _ => rfl)) (pa_cons (pe_op op_add (pv 2) pe_int) pa_nil)))))) pss_nil) (pss_one (ps_ret (pe_ix ix_list (pe_fld (pv 0) rfl) (pe_op op_add (pe_meth0 (pv 0) T.cl mR GR hr1 bR .nil pass0) (pe_op op_mod (pv 2) (pe_ix ix_tup (pe_fld (pv 0) rfl) pe_int (fun _ _ => rfl)))) (fun _ _ => rfl))))))))), ?_⟩
    obtain ⟨dx, hob⟩ := R.ob
    have nF : (flds g t o).lookup ("first_repeating" : Str) = none := flds_no _ _ _ (by decide +kernel) (by decide +kernel) (by decide +kernel)
    have nA : (flds g t o).lookup ("attempts" : Str) = none := flds_no _ _ _ (by decide +kernel) (by decide +kernel) (by decide +kernel)
    refine ⟨_, rfl, p, dx, _, rfl, hob, flds_no _ _ _ (by decide +kernel) (by decide +kernel) (by decide +kernel), _, rfl, p, g, t, o, gs, tl, n, rfl, R, ok, ?_⟩
    refine ⟨_, rfl, _, _, rfl, rfl, _, rfl, p, dx, _, rfl, hob, nA, p, g, t, o, gs, tl, rfl, R, ?_⟩
    have hsc : scal (V.int ((n : Int) + 1)) (attV gs tl) = true := by cases tl <;> rfl
    have hne : decide (V.int ((n : Int) + 1) = attV gs tl) = false := by
      cases tl with
      | fin =>
        have := okf rfl
        refine decide_eq_false fun e => ?_
        have := V.int.inj e
        omega
      | times b => exact decide_eq_false fun e => by cases e
      | rep m => exact decide_eq_false fun e => by cases e
    refine ⟨hsc, _, rfl, iteFb hne ?_⟩
    refine ⟨_, rfl, rdG T R rfl ⟨g, _, rfl, .inl (SqL.of R.hg), _, _, rfl, rfl, _, rfl, ?_⟩⟩
    rw [List.length_map]
    by_cases hn : n < gs.length
    · refine iteTb (decide_eq_true (by omega)) ?_
      refine rdGx T R rfl ⟨_, rfl, g, _, _, _, rfl, rfl, SqL.of R.hg, at_map (getD_get hn), ?_⟩
      have e : gapf gs tl n = gs.getD n 0 := if_pos hn
      rw [← e]
      exact k
    · refine end_cmp (by omega) ?_
      refine ⟨_, rfl, ?_⟩
      refine rdG T R rfl ⟨g, _, rfl, .inl (SqL.of R.hg), _, _, rfl, rfl, ?_⟩
      have ef : ((n : Int) - (((gs.map V.int).length : Nat) : Int)) = ((n - gs.length : Nat) : Int) := by
        rw [List.length_map]
        omega
      show tSeq _ _ _ (List.set _ 2 (some (V.int ((n : Int) - (((gs.map V.int).length : Nat) : Int))))) H
      rw [ef]
      refine rdIs T R rfl ?_
      cases tl with
      | fin => exact absurd (okf rfl) hn
      | times b =>
        have hl := R.okT.1
        have hb0 := R.okT.2.1
        have hb1 := R.okT.2.2
        have hn1 : n ≤ 1000 := ok
        have hg := gap_bd R.okG (k := gs.length - 1) (by omega)
        have hg : 1 ≤ lastG gs ∧ lastG gs ≤ 1000000000000 := hg
        refine iteTb wTT ?_
        refine rdLast T R rfl hl ?_
        refine rdB T R rfl ⟨_, rfl, _, _, rfl, rfl, b, n - gs.length + 1, ?_, by omega, by omega, by omega, _, _, rfl, rfl, .inl ⟨by omega, by omega⟩, ?_⟩
        · rfl
        · have e : gapf gs (.times b) n = lastG gs * b ^ (n - gs.length + 1) := if_neg hn
          rw [e] at k
          exact k
      | rep m =>
        have hm0 := R.okT.1
        have hm1 := R.okT.2
        have hr0 : (n - gs.length) % m < m := Nat.mod_lt _ (by omega)
        refine iteFb wRT ?_
        refine rdGx T R rfl ⟨_, rfl, p, dx, _, rfl, hob, nF, p, g, t, o, gs, m, rfl, R, _, rfl, ?_⟩
        refine rdN T R rfl ⟨_, _, rfl, rfl, by omega, _, _, rfl, rfl, ?_⟩
        refine ⟨g, _, _, .int (gs.getD (gs.length - m + (n - gs.length) % m) 0), rfl, rfl, SqL.of R.hg, ?_, ?_⟩
        · rw [← Int.natCast_emod, ← Int.natCast_add]
          exact at_map (getD_get (by omega))
        · have e : gapf gs (.rep m) n = gs.getD (gs.length - m + (n - gs.length) % m) 0 := if_neg hn
          rw [e] at k
          exact k
end
end RS
namespace RS
open PySem L2
/-! ### the law's own source of numbers -/
/-- all but what stands at a is as it was -/
def Kx (a : Addr) (H H' : Hp) : Prop := ∀ c u, c ≠ a → H c = some u → H' c = some u
theorem Kx.refl (a : Addr) (H : Hp) : Kx a H H := fun _ _ _ h => h
theorem Kx.trans {a : Addr} {H H1 H2 : Hp} (x : Kx a H H1) (y : Kx a H1 H2) : Kx a H H2 := fun c u n h => y c u n (x c u n h)
theorem Kx.of {a : Addr} {H H' : Hp} (x : Same H H') : Kx a H H' := fun c u _ h => x c u h
theorem Kx.upd {a : Addr} {H : Hp} {o : HO} : Kx a H (upd H a o) := fun c u n h => by
  rw [upd_ne n]
  exact h
theorem Kx.free {a : Addr} {H H' : Hp} (x : Kx a H H') {p : Addr} (n : p ≠ a) (h : H' p = none) : H p = none := by
  cases q : H p with
  | none => rfl
  | some o =>
    rw [x p o n q] at h
    cases h
structure Src (H : Hp) (a : Addr) (b : Nat) : Prop where
  ex : ∃ s0 s1 s2 : Int, H a = some (.lst [.int s0, .int s1, .int s2]) ∧ 0 ≤ s0 ∧ 0 ≤ s1 ∧ s1 < 2147483647 ∧ 0 ≤ s2 ∧ s2 ≤ b
theorem Src.mono {H H' : Hp} {a : Addr} {b : Nat} (h : Src H a b) (e : Same H H') : Src H' a b := by
  obtain ⟨s0, s1, s2, h1, h2⟩ := h.ex
  exact ⟨s0, s1, s2, e _ _ h1, h2⟩
theorem Src.le {H : Hp} {a : Addr} {b c : Nat} (h : Src H a b) (e : b ≤ c) : Src H a c := by
  obtain ⟨s0, s1, s2, h1, h2, h3, h4, h5, h6⟩ := h.ex
  exact ⟨s0, s1, s2, h1, h2, h3, h4, h5, by omega⟩
theorem Src.new {H : Hp} {a : Addr} {b : Nat} (h : Src H a b) {p : Addr} (hp : H p = none) : a ≠ p := by
  obtain ⟨s0, s1, s2, h1, _⟩ := h.ex
  exact ne_of_none h1 hp
section
variable {P : Program} {w : World} {K : PySem.W.Frag} {mg : Str → Option Value} {base : Heap}
def spSrcOf : Sp := fun vs H Q _ => ∃ c : Int, vs = [.int c] ∧ ∀ a H', H a = none → Same H H' → Src H' a 0 → Q (.ref a) H'
theorem scSrcOf : FnScope ["_law_cell"] ["_law_cell"] (defScope s_law_source_of) := ⟨rfl, rfl, rfl, by decide +kernel, rfl, by decide +kernel, by decide +kernel⟩
theorem ok_srcOf {f C : Addr} {fd : FuncData} (F : Fun K "_law_source_of" "_law_source_of" s_law_source_of f fd) (T : Txt K mg C) : FnOk P w K mg base CX0 1 f fd ["_law_cell"] spSrcOf := by
  refine F.ok scSrcOf (fun vs H Q E h => ?_) (fun cdv A outer s H vs Q E hr h => ?_)
  · obtain ⟨c, rfl, _⟩ := h
    rfl
  · obtain ⟨c, rfl, k⟩ := h
    refine ⟨_, (pss_one (ps_ret (pe_lst (pa_cons (pe_op op_mul (pv 0) (pe_callTy call_int1 (by rfl) T.int (by decide +kernel) (pa_cons (pe_cmpR op_ge (pv 0) (pe_op op_pow pe_int pe_int) (nomark _)) pa_nil))) (pa_cons (pe_op op_mod (pe_callTy call_int1 (by rfl) T.int (by decide +kernel) (pa_cons (pv 0) pa_nil)) pe_int) (pa_cons pe_int pa_nil)))))), ?_⟩
    refine ⟨_, rfl, _, rfl, _, _, rfl, rfl, ⟨by decide, by decide, by decide⟩, _, _, rfl, rfl, .inr ⟨_, rfl, ?_⟩⟩
    refine ⟨_, _, rfl, rfl, .inr ?_, _, rfl, .inl ⟨_, rfl, _, _, rfl, rfl, (by show (0 : Int) < 2147483647; decide), (by show 3 ≤ sizeLine; decide), fun a ha => ?_⟩⟩
    · by_cases hc : (10 : Int) ^ (18 : Int).toNat ≤ c
      · rw [decide_eq_true hc]; decide
      · rw [decide_eq_false hc]; decide
    · refine k a _ ha (same_new ha) ⟨_, _, _, upd_same, ?_, Int.emod_nonneg _ (by decide), Int.emod_lt_of_pos _ (by decide), by decide, by decide⟩
      by_cases hc : (10 : Int) ^ (18 : Int).toNat ≤ c
      · have e : (10 : Int) ^ (18 : Int).toNat = 1000000000000000000 := by decide
        rw [decide_eq_true hc]
        show 0 ≤ c * 1
        omega
      · rw [decide_eq_false hc]
        show 0 ≤ c * 0
        omega
def spNext : Sp := fun vs H Q _ => ∃ (a : Addr) (m : Int) (b : Nat), vs = [.ref a, .int m] ∧ Src H a b ∧ b ≤ 100000 ∧ 1 ≤ m ∧ m < 2 ^ 200 ∧ ∀ r H', 0 ≤ r → r < m → Kx a H H' → Src H' a (b + 1) → Q (.int r) H'
theorem scNext : FnScope ["_law_source", "_law_bound", "_law_result", "_law_prime", "_law_mixed"] ["_law_source", "_law_bound"] (defScope s_law_draw) := ⟨rfl, rfl, rfl, by decide +kernel, rfl, by decide +kernel, by decide +kernel⟩
theorem prime_at {s : Int} (h : 0 ≤ s) : ∃ pr : Int, atI [V.int 2147483647, V.int 2147483629, V.int 2147483587, V.int 2147483579, V.int 2147483563, V.int 2147483549, V.int 2147483543] (s % 7) = some (.int pr) ∧ 1 ≤ pr ∧ pr ≤ 2147483647 := by
  have h1 : s % 7 = 0 ∨ s % 7 = 1 ∨ s % 7 = 2 ∨ s % 7 = 3 ∨ s % 7 = 4 ∨ s % 7 = 5 ∨ s % 7 = 6 := by omega
  rcases h1 with h1 | h1 | h1 | h1 | h1 | h1 | h1 <;> rw [h1] <;> exact ⟨_, rfl, by decide, by decide⟩
theorem ok_next {f C : Addr} {fd : FuncData} (F : Fun K "_law_draw" "_law_draw" s_law_draw f fd) (T : Txt K mg C) : FnOk P w K mg base CX0 1 f fd ["_law_source", "_law_bound"] spNext := by
  refine F.ok scNext (fun vs H Q E h => ?_) (fun cdv A outer s H vs Q E hr h => ?_)
  · obtain ⟨a, m, b, rfl, _⟩ := h
    rfl
  · obtain ⟨a, m, b, rfl, S, hb, hm1, hm2, k⟩ := h
    obtain ⟨s0, s1, s2, ha, h0, h1, h1', h2, h2'⟩ := S.ex
    refine ⟨_, (pss_cons (ps_if (pt_cmpR op_gt (pe_ix ix_list (pv 0) pe_int (fun _ _ => rfl)) pe_int (nomark _)) (pss_cons (ps_set (i := 2) scNext.nd rfl (Or.inl rfl) (pe_op op_mod (pe_callTy call_int1 (by rfl) T.int (by decide +kernel) (pa_cons (pe_ix ix_list (pv 0) pe_int (fun _ _ => rfl)) pa_nil)) (pv 1))) (pss_cons (ps_asg (pe_op op_fdivW (pe_ix ix_list (pv 0) pe_int (fun _ _ => rfl)) (pv 1)) (pg_sub (pv 0) pe_int set_list)) (pss_one (ps_ret (pv 2))))) pss_nil) (pss_cons (ps_asg (pe_op op_add (pe_ix ix_list (pv 0) pe_int (fun _ _ => rfl)) pe_int) (pg_sub (pv 0) pe_int set_list)) (pss_cons (ps_set (i := 3) scNext.nd rfl (Or.inl rfl) (pe_ix ix_list (pe_lst (pa_cons pe_int (pa_cons pe_int (pa_cons pe_int (pa_cons pe_int (pa_cons pe_int (pa_cons pe_int (pa_cons pe_int pa_nil)))))))) (pe_op op_mod (pe_callTy call_int1 (by rfl) T.int (by decide +kernel) (pa_cons (pe_ix ix_list (pv 0) pe_int (fun _ _ => rfl)) pa_nil)) pe_int) (fun _ _ => rfl))) (pss_cons (ps_set (i := 4) scNext.nd rfl (Or.inl rfl) (pe_op op_mod (pe_callTy call_int1 (by rfl) T.int (by decide +kernel) (pa_cons (pe_op op_pow (pe_op op_add (pe_op op_add (pe_ix ix_list (pv 0) pe_int (fun _ _ => rfl)) (pe_op op_mul pe_int (pe_ix ix_list (pv 0) pe_int (fun _ _ => rfl)))) pe_int) pe_int) pa_nil)) (pv 3))) (pss_cons (ps_set (i := 4) scNext.nd rfl (Or.inl rfl) (pe_op op_mod (pe_callTy call_int1 (by rfl) T.int (by decide +kernel) (pa_cons (pe_op op_mul (pe_op op_add (pv 4) (pe_ix ix_list (pv 0) pe_int (fun _ _ => rfl))) (pe_op op_add (pe_op op_fdiv (pv 4) pe_int) pe_int)) pa_nil)) (pv 3))) (pss_one (ps_ret (pe_op op_mod (pe_callTy call_int1 (by rfl) T.int (by decide +kernel) (pa_cons (pe_op op_fdiv (pv 4) pe_int) pa_nil)) (pv 1))))))))), ?_⟩
    refine ⟨_, rfl, a, _, _, _, rfl, rfl, SqL.of ha, atI_nat (j := 0) rfl, _, _, rfl, rfl, _, rfl, ?_⟩
    by_cases hz : 0 < s0
    · refine iteTb (decide_eq_true hz) ?_
      refine ⟨_, rfl, a, _, _, _, rfl, rfl, SqL.of ha, atI_nat (j := 0) rfl, .inl ⟨_, rfl, _, rfl, _, _, rfl, rfl, by omega, ?_⟩⟩
      refine ⟨_, rfl, a, _, _, _, rfl, rfl, SqL.of ha, atI_nat (j := 0) rfl, _, rfl, _, _, rfl, rfl, wide_div (by omega) (b := 200) (by omega) (by decide) (by decide), _, rfl, a, _, _, 0, rfl, rfl, ha, rfl, ?_⟩
      refine ⟨_, rfl, k _ _ (Int.emod_nonneg _ (by omega)) (Int.emod_lt_of_pos _ (by omega)) Kx.upd ⟨s0 / m, s1, s2, upd_same, Int.ediv_nonneg h0 (by omega), h1, h1', h2, by omega⟩⟩
    · refine iteFb (decide_eq_false hz) ?_
      refine ⟨_, rfl, a, _, _, _, rfl, rfl, SqL.of ha, atI_nat (j := 2) rfl, _, _, rfl, rfl, _, rfl, a, _, _, 2, rfl, rfl, ha, rfl, ?_⟩
      refine ⟨by show 7 ≤ sizeLine; decide, fun l hl => ?_⟩
      have hal : (upd (upd H a (.lst [.int s0, .int s1, .int (s2 + 1)])) l (.lst [.int 2147483647, .int 2147483629, .int 2147483587, .int 2147483579, .int 2147483563, .int 2147483549, .int 2147483543])) a = some (.lst [.int s0, .int s1, .int (s2 + 1)]) := by
        rw [upd_ne (ne_of_none upd_same hl)]
        exact upd_same
      obtain ⟨pr, hpr, hp1, hp2⟩ := prime_at (s := s2 + 1) (by omega)
      refine ⟨_, rfl, a, _, _, _, rfl, rfl, SqL.of hal, atI_nat (j := 2) rfl, .inl ⟨_, rfl, _, _, rfl, rfl, (by show (0 : Int) < 7; decide), l, _, _, _, rfl, rfl, SqL.of upd_same, hpr, ?_⟩⟩
      refine ⟨_, rfl, a, _, _, _, rfl, rfl, SqL.of hal, atI_nat (j := 1) rfl, _, rfl, a, _, _, _, rfl, rfl, SqL.of hal, atI_nat (j := 2) rfl, _, _, rfl, rfl, .inl ⟨by decide, by decide⟩, _, _, rfl, rfl, _, _, rfl, rfl, _, _, rfl, rfl, ⟨by decide, by decide, by omega⟩, .inl ⟨_, rfl, _, rfl, _, _, rfl, rfl, by omega, ?_⟩⟩
      generalize hf : (s1 + 7919 * (s2 + 1) + 1) ^ (5 : Int).toNat % pr = fg
      have f0 : 0 ≤ fg := by rw [← hf]; exact Int.emod_nonneg _ (by omega)
      have f1 : fg < pr := by rw [← hf]; exact Int.emod_lt_of_pos _ (by omega)
      refine ⟨_, rfl, _, rfl, a, _, _, _, rfl, rfl, SqL.of hal, atI_nat (j := 2) rfl, _, _, rfl, rfl, _, rfl, _, _, rfl, rfl, ⟨by decide, by decide⟩, _, _, rfl, rfl, _, _, rfl, rfl, .inl ⟨by omega, by omega⟩, .inl ⟨_, rfl, _, rfl, _, _, rfl, rfl, by omega, ?_⟩⟩
      refine ⟨_, rfl, _, _, rfl, rfl, ⟨by decide, by decide⟩, .inl ⟨_, rfl, _, rfl, _, _, rfl, rfl, by omega, ?_⟩⟩
      refine k _ _ (Int.emod_nonneg _ (by omega)) (Int.emod_lt_of_pos _ (by omega)) (fun c u n e => ?_) ⟨s0, s1, s2 + 1, hal, h0, h1, h1', by omega, by omega⟩
      have e2 : (upd H a (.lst [.int s0, .int s1, .int (s2 + 1)])) c = some u := by
        rw [upd_ne n]
        exact e
      rw [upd_ne (ne_of_none e2 hl)]
      exact e2
def spOne : Sp := fun vs H Q _ => ∃ (a q : Addr) (xs : List V) (b : Nat), vs = [.ref a, .ref q] ∧ Src H a b ∧ b ≤ 100000 ∧ q ≠ a ∧ H q = some (.lst xs) ∧ 0 < xs.length ∧ xs.length < 1000 ∧ ∀ x H', x ∈ xs → Kx a H H' → Src H' a (b + 1) → Q x H'
theorem scOne : FnScope ["_law_source", "_law_options"] ["_law_source", "_law_options"] (defScope s_law_choice) := ⟨rfl, rfl, rfl, by decide +kernel, rfl, by decide +kernel, by decide +kernel⟩
theorem ok_one {f C fN : Addr} {fd fdN : FuncData} (F : Fun K "_law_choice" "_law_choice" s_law_choice f fd) (T : Txt K mg C) (FN : Fun K "_law_draw" "_law_draw" s_law_draw fN fdN) (bN : Binds K fdN ["_law_source", "_law_bound"] []) (mN : mg "_law_draw" = some (.ref fN)) :
    FnOk P w K mg base CX0 2 f fd ["_law_source", "_law_options"] spOne := by
  have GN : FnOk P w K mg base CX0 1 fN fdN ["_law_source", "_law_bound"] spNext := ok_next FN T
  refine F.ok scOne (fun vs H Q E h => ?_) (fun cdv A outer s H vs Q E hr h => ?_)
  · obtain ⟨a, q, xs, b, rfl, _⟩ := h
    rfl
  · obtain ⟨a, q, xs, b, rfl, S, hb, hne, hq, hx0, hx1, k⟩ := h
    refine ⟨_, (pss_one (ps_ret (pe_ix ix_list (pv 1) (pe_call GN hr rfl mN FN.kp bN .nil pass0 (pa_cons (pv 0) (pa_cons (pe_callB call_len_seq (by rfl) T.len (by decide +kernel) (pa_cons (pv 1) pa_nil)) pa_nil))) (fun _ _ => rfl)))), ?_⟩
    refine ⟨_, rfl, _, rfl, _, rfl, q, _, rfl, .inl (SqL.of hq), a, (xs.length : Int), b, rfl, S, hb, by omega, by omega, fun r H' r0 r1 kx S' => ?_⟩
    obtain ⟨j, rfl⟩ : ∃ j : Nat, r = (j : Int) := ⟨r.toNat, by omega⟩
    have hj : j < xs.length := by omega
    exact ⟨q, _, _, _, rfl, rfl, SqL.of (kx _ _ hne hq), atI_nat (List.getElem?_eq_getElem hj), k _ _ (List.getElem_mem hj) kx S'⟩
def spCell (K : PySem.W.Frag) : Sp := fun vs H Q _ => ∃ (a : Addr) (ns : List Int), vs = [.ref a, .int 0] ∧ SqL K H a (ns.map V.int) ∧ Q (.int (ns.getD 0 0)) H
theorem scCell : FnScope ["_law_script", "_law_index"] ["_law_script", "_law_index"] (defScope s_law_cell_at) := ⟨rfl, rfl, rfl, by decide +kernel, rfl, by decide +kernel, by decide +kernel⟩
theorem ok_cell {f C : Addr} {fd : FuncData} (F : Fun K "_law_cell_at" "_law_cell_at" s_law_cell_at f fd) (T : Txt K mg C) : FnOk P w K mg base CX0 1 f fd ["_law_script", "_law_index"] (spCell K) := by
  refine F.ok scCell (fun vs H Q E h => ?_) (fun cdv A outer s H vs Q E hr h => ?_)
  · obtain ⟨a, ns, rfl, _⟩ := h
    rfl
  · obtain ⟨a, ns, rfl, hs, k⟩ := h
    refine ⟨_, (pss_cons (ps_if (pt_cmpR op_lt (pv 1) (pe_callB call_len_seq (by rfl) T.len (by decide +kernel) (pa_cons (pv 0) pa_nil)) (nomark _)) (pss_one (ps_ret (pe_ix ix_list (pv 0) (pv 1) (fun _ _ => rfl)))) pss_nil) (pss_one (ps_ret pe_int))), ?_⟩
    refine ⟨_, rfl, _, rfl, a, _, rfl, .inl hs, _, _, rfl, rfl, _, rfl, ?_⟩
    rw [List.length_map]
    cases ns with
    | nil => exact iteFb (by decide) k
    | cons n r =>
      refine iteTb (decide_eq_true (by rw [List.length_cons]; omega)) ?_
      exact ⟨_, rfl, _, rfl, a, _, _, _, rfl, rfl, hs, atI_nat (j := 0) rfl, k⟩
end
end RS
namespace RS
open PySem L2
section
variable {P : Program} {w : World} {K : PySem.W.Frag} {mg : Str → Option Value} {base : Heap}
/-! ### the law's gaps -/
theorem ints_dp {K : PySem.W.Frag} {H : Hp} : ∀ ns : List Int, DpAll K H (ns.map V.int) (ns.map PyData.int)
  | [] => .nil
  | n :: r => .cons (.int n) (ints_dp r)
theorem list_dp {K : PySem.W.Frag} {H : Hp} {a : Addr} {ns : List Int} (h : SqL K H a (ns.map V.int)) : Dp K H (.ref a) (.list (ns.map PyData.int)) := .lst h (ints_dp ns)
theorem list_eqv (ns ms : List Int) : PyData.eqv (.list (ns.map PyData.int)) (.list (ms.map PyData.int)) = decide (ns = ms) := PySem.W.ked_eqvAll ns ms
theorem pow4 {n : Nat} (h : n ≤ 6) : (10 : Int) * 4 ^ n ≤ 40960 := by
  have : n = 0 ∨ n = 1 ∨ n = 2 ∨ n = 3 ∨ n = 4 ∨ n = 5 ∨ n = 6 := by omega
  rcases this with rfl | rfl | rfl | rfl | rfl | rfl | rfl <;> decide
def spGps : Sp := fun vs H Q _ => ∃ (a : Addr) (b : Nat), vs = [.ref a] ∧ Src H a b ∧ b ≤ 50000 ∧
  ∀ (g : Addr) (gs : List Int) (H' : Hp), g ≠ a → H' g = some (.lst (gs.map V.int)) → GapsOk gs → Kx a H H' → Src H' a (b + 40) → Q (.ref g) H'
theorem scGps : FnScope ["_law_source", "_law_size", "_law_kind", "_law_first", "_law_factor", "_law_gaps_here", "_law_known", "_law_most", "_law_gap"] ["_law_source"] (defScope s_law_gaps) := ⟨rfl, rfl, rfl, by decide +kernel, rfl, by decide +kernel, by decide +kernel⟩
theorem ok_gps {f C fN fO : Addr} {fd fdN fdO : FuncData} (F : Fun K "_law_gaps" "_law_gaps" s_law_gaps f fd) (T : Txt K mg C) (zmin : mg "min" = none)
    (GN : FnOk P w K mg base CX0 1 fN fdN ["_law_source", "_law_bound"] spNext) (bN : Binds K fdN ["_law_source", "_law_bound"] []) (mN : mg "_law_draw" = some (.ref fN)) (kN : PySem.W.keepIn K (.ref fN) = true)
    (GO : FnOk P w K mg base CX0 2 fO fdO ["_law_source", "_law_options"] spOne) (bO : Binds K fdO ["_law_source", "_law_options"] []) (mO : mg "_law_choice" = some (.ref fO)) (kO : PySem.W.keepIn K (.ref fO) = true) : FnOk P w K mg base CX0 3 f fd ["_law_source"] spGps := by
  refine F.ok scGps (fun vs H Q E h => ?_) (fun cdv A outer s H vs Q E hr h => ?_)
  · obtain ⟨a, b, rfl, _⟩ := h
    rfl
  · obtain ⟨a, b, rfl, S, hb, k⟩ := h
    have hr1 := hr.mono (show 1 ≤ 2 by decide)
    refine ⟨_, (pss_cons (ps_set (i := 1) scGps.nd rfl (Or.inl rfl) (pe_call GO hr rfl mO kO bO .nil pass0 (pa_cons (pv 0) (pa_cons (pe_lst (pa_cons pe_int (pa_cons pe_int (pa_cons pe_int (pa_cons pe_int (pa_cons pe_int (pa_cons pe_int (pa_cons pe_int (pa_cons pe_int pa_nil))))))))) pa_nil)))) (pss_cons (ps_set (i := 2) scGps.nd rfl (Or.inl rfl) (pe_call GN hr1 rfl mN kN bN .nil pass0 (pa_cons (pv 0) (pa_cons pe_int pa_nil)))) (pss_cons (ps_if (pt_cmpR op_eq (pv 2) pe_int (nomark _)) (pss_cons (ps_par (i := 3) (j := 4) (by rfl) scGps.nd rfl rfl (by decide) rfl rfl (pa_cons (pe_op op_add pe_int (pe_call GN hr1 rfl mN kN bN .nil pass0 (pa_cons (pv 0) (pa_cons pe_int pa_nil)))) (pa_cons (pe_op op_add pe_int (pe_call GN hr1 rfl mN kN bN .nil pass0 (pa_cons (pv 0) (pa_cons pe_int pa_nil)))) pa_nil)) (by rfl)) (pss_cons (ps_set (i := 5) scGps.nd rfl (Or.inl rfl) (pe_lst (pa_cons (pv 3) pa_nil))) (pss_cons (ps_while PassesOwn.never (pt_cmpR op_lt (pe_callB call_len_seq (by rfl) T.len (by decide +kernel) (pa_cons (pv 5) pa_nil)) (pe_callB (call_min2 rfl) (by rfl) zmin (by decide +kernel) (pa_cons (pv 1) (pa_cons pe_int pa_nil))) (nomark _))
          (pss_one (ps_expr (pe_bm PySem.F.plainAttrs_list PySem.F.slot_list_append PySem.F.type_list_append mt_append (pv 5) (pa_cons (pe_op op_add (pe_op op_mul (pe_ix ix_list (pv 5) (pe_un un_neg pe_int) (fun _ _ => rfl)) (pv 4)) (pe_op op_fdiv (pe_call GN hr1 rfl mN kN bN .nil pass0 (pa_cons (pv 0) (pa_cons pe_int pa_nil))) pe_int)) pa_nil))))) (pss_one (ps_ret (pv 5)))))) pss_nil) (pss_cons (ps_if (pt_cmpR op_eq (pv 2) pe_int (nomark _)) (pss_cons (ps_set (i := 6) scGps.nd rfl (Or.inl rfl) (pe_lst (pa_cons (pe_lst (pa_cons pe_int (pa_cons pe_int (pa_cons pe_int pa_nil)))) (pa_cons (pe_lst (pa_cons pe_int (pa_cons pe_int (pa_cons pe_int (pa_cons pe_int pa_nil))))) (pa_cons (pe_lst (pa_cons pe_int (pa_cons pe_int pa_nil))) (pa_cons (pe_lst (pa_cons pe_int (pa_cons pe_int (pa_cons pe_int pa_nil)))) (pa_cons (pe_lst (pa_cons pe_int (pa_cons pe_int (pa_cons pe_int (pa_cons pe_int pa_nil))))) (pa_cons (pe_lst (pa_cons pe_int (pa_cons pe_int pa_nil))) (pa_cons (pe_lst (pa_cons pe_int (pa_cons pe_int pa_nil))) (pa_cons (pe_lst (pa_cons (pe_op op_pow pe_int pe_int) pa_nil)) pa_nil)))))))))) (pss_one (ps_ret (pe_call GO hr rfl mO kO bO .nil pass0 (pa_cons (pv 0) (pa_cons (pv 6) pa_nil)))))) pss_nil) (pss_cons (ps_set (i := 7) scGps.nd rfl (Or.inr rfl) (pe_call GO hr rfl mO kO bO .nil pass0 (pa_cons (pv 0) (pa_cons (pe_lst (pa_cons pe_int (pa_cons pe_int (pa_cons pe_int (pa_cons (pe_op op_pow pe_int pe_int) pa_nil))))) pa_nil)))) (pss_one (ps_ret (pe_lc (own := [("_law_gap", 8)]) (g := gName 8) (tt := tYes) rfl scGps.nd (pi_range1 rfl T.range (pa_cons (pv 1) pa_nil)) (blkOk_by (own := [("_law_gap", 8)]) (N := ["_law_source", "_law_size", "_law_kind", "_law_first", "_law_factor", "_law_gaps_here", "_law_known", "_law_most", "_law_gap"]) (sc := defScope s_law_gaps) (by decide +kernel))
        (fun _ _ _ _ _ => (pg_name (i := 8) scGps.nd rfl (Or.inl rfl))) (fun _ _ _ _ _ => pts_nil) (fun _ _ _ _ _ => (pe_op op_add pe_int (pe_call GN hr1 rfl mN kN bN .nil pass0 (pa_cons (pv 0) (pa_cons (pv 7) pa_nil))))))))))))), ?_⟩
    refine ⟨_, rfl, (by show 8 ≤ sizeLine; decide), fun q1 hq1 => ?_⟩
    have S1 : Same H (upd H q1 (.lst [.int 0, .int 1, .int 2, .int 3, .int 4, .int 5, .int 6, .int 20])) := same_new hq1
    refine ⟨a, q1, _, b, rfl, S.mono S1, by omega, (S.new hq1).symm, upd_same, by show 0 < 8; decide, by show 8 < 1000; decide, fun x H2 hx kx2 R2 => ?_⟩
    obtain ⟨sz, rfl, sz0, sz1⟩ : ∃ sz : Int, x = .int sz ∧ 0 ≤ sz ∧ sz ≤ 20 := by
      simp only [List.mem_cons, List.not_mem_nil, or_false] at hx
      rcases hx with rfl | rfl | rfl | rfl | rfl | rfl | rfl | rfl <;> exact ⟨_, rfl, by decide, by decide⟩
    have kx2 : Kx a H H2 := (Kx.of S1).trans kx2
    clear hx hq1 S1
    refine ⟨_, rfl, a, 4, b + 1, rfl, R2, by omega, by decide, by decide, fun kd H3 kd0 kd1 kx3 R3 => ?_⟩
    have kx3 : Kx a H H3 := kx2.trans kx3
    refine ⟨_, rfl, rfl, _, rfl, ?_⟩
    by_cases hk0 : kd = 0
    · refine iteTb (decide_eq_true (by rw [hk0])) ?_
      refine ⟨_, rfl, a, 5, b + 2, rfl, R3, by omega, by decide, by decide, fun r1 H4 r10 r11 kx4 R4 => ⟨_, _, rfl, rfl, _, rfl, a, 2, b + 3, rfl, R4, by omega, by decide, by decide, fun r2 H5 r20 r21 kx5 R5 => ⟨_, _, rfl, rfl, _, _, rfl, ?_⟩⟩⟩
      have kx5 : Kx a H H5 := kx3.trans (kx4.trans kx5)
      refine ⟨_, rfl, (by show 1 ≤ sizeLine; decide), fun D hD => ?_⟩
      have naD : a ≠ D := R5.new hD
      have hDH : H D = none := kx5.free naD.symm hD
      refine ⟨fun m σ H' => ∃ (gs : List Int) (l : Int) (i : Nat), m = 7 - i ∧ gs.length = i ∧ 1 ≤ i ∧ i ≤ 7 ∧ (∀ g ∈ gs, 1 ≤ g ∧ g ≤ 1000000000000) ∧ gs[i - 1]? = some l ∧ 1 ≤ l ∧ l ≤ 10 * 4 ^ (i - 1) ∧ σ = [some (.ref a), some (.int sz), some (.int kd), some (.int (1 + r1)), some (.int (2 + r2)), some (.ref D), none, none, none] ∧ H' D = some (.lst (gs.map V.int)) ∧ Kx a H H' ∧ Src H' a (b + 4 + i), ⟨6, [1 + r1], 1 + r1, 1, rfl, rfl, by omega, by omega, ?_, rfl, by omega, by show 1 + r1 ≤ 10 * 4 ^ 0; omega, rfl, upd_same, kx5.trans (Kx.of (same_new hD)), (R5.mono (same_new hD)).le (by omega)⟩, ?_⟩
      · intro g hg
        obtain rfl := List.mem_singleton.mp hg
        omega
      · rintro m σ H' ⟨gs, l, i, rfl, hl, hi1, hi7, hg, hgl, hl1, hl2, rfl, hd, kx, R⟩
        have hz : (gs.map V.int).length = i := by rw [List.length_map, hl]
        refine ⟨_, rfl, D, _, rfl, .inl (SqL.of hd), _, rfl, _, _, rfl, _, _, rfl, rfl, _, rfl, ?_⟩
        rw [hz]
        generalize hmn : (if (7 : Int) < sz then (7 : Int) else sz) = mn
        have hmn7 : mn ≤ 7 := by rw [← hmn]; split <;> omega
        by_cases hlt : (i : Int) < mn
        · refine iteTb (decide_eq_true hlt) ⟨fun σ' H2 => ∃ (gs : List Int) (l : Int), gs.length = i + 1 ∧ (∀ g ∈ gs, 1 ≤ g ∧ g ≤ 1000000000000) ∧ gs[i]? = some l ∧ 1 ≤ l ∧ l ≤ 10 * 4 ^ i ∧ σ' = [some (.ref a), some (.int sz), some (.int kd), some (.int (1 + r1)), some (.int (2 + r2)), some (.ref D), none, none, none] ∧ H2 D = some (.lst (gs.map V.int)) ∧ Kx a H H2 ∧ Src H2 a (b + 4 + (i + 1)), ?_, ?_⟩
          · rintro σ' H2 ⟨gs2, l2, e1, e2, e3, e4, e5, e6, e7, e8, e9⟩
            exact ⟨7 - (i + 1), by omega, gs2, l2, i + 1, rfl, e1, by omega, by omega, e2, e3, e4, e5, e6, e7, e8, e9⟩
          · have hp := pow4 (n := i - 1) (by omega)
            refine ⟨_, rfl, .inl ⟨rfl, _, SqL.of hd⟩, _, rfl, _, rfl, D, _, _, _, rfl, rfl, SqL.of hd, at_back1 (v := .int l) (by rw [hz]; omega) (by rw [hz, List.getElem?_map, hgl]; rfl), _, rfl, _, _, rfl, rfl, .inl ⟨by omega, by omega⟩, ?_⟩
            refine ⟨_, rfl, a, 9, b + 4 + i, rfl, R, by omega, by decide, by decide, fun r9 H6 r90 r91 kx6 R6 => ?_⟩
            have hd6 := kx6 D _ naD.symm hd
            refine ⟨_, _, rfl, rfl, ⟨by decide, by decide⟩, _, _, rfl, rfl, D, _, _, rfl, rfl, hd6, by rw [hz]; exact small1000 (by omega), ?_⟩
            have h3 : l * (2 + r2) ≤ l * 3 := Int.mul_le_mul_of_nonneg_left (by omega) (by omega)
            have h4 : l * 2 ≤ l * (2 + r2) := Int.mul_le_mul_of_nonneg_left (by omega) (by omega)
            have e4 : (10 : Int) * 4 ^ i = 4 * (10 * 4 ^ (i - 1)) := by
              rw [show i = (i - 1) + 1 by omega, Int.pow_succ, show i - 1 + 1 - 1 = i - 1 by omega]
              omega
            have h8 : r9 / 8 ≤ 1 := by omega
            have h80 : 0 ≤ r9 / 8 := by omega
            refine ⟨gs ++ [l * (2 + r2) + r9 / 8], l * (2 + r2) + r9 / 8, ?_, ?_, ?_, by omega, by omega, rfl, ?_, ?_, ?_⟩
            · rw [List.length_append, hl]
              rfl
            · intro g hm
              rcases List.mem_append.mp hm with hm | hm
              · exact hg g hm
              · obtain rfl := List.mem_singleton.mp hm
                omega
            · rw [List.getElem?_append_right (by omega), hl, Nat.sub_self]
              rfl
            · rw [upd_same, List.map_append]
              rfl
            · intro c u n e
              rw [upd_ne (ne_of_none e hDH)]
              exact kx6 c u n (kx c u n e)
            · obtain ⟨s0, s1, s2, h1, h2⟩ := R6.ex
              exact ⟨s0, s1, s2, by rw [upd_ne naD]; exact h1, by omega⟩
        · refine iteFb (decide_eq_false hlt) ?_
          exact ⟨_, rfl, k D gs H' naD.symm hd ⟨by omega, hg⟩ kx (R.le (by omega))⟩
    · refine iteFb (decide_eq_false fun e => hk0 (V.int.inj e)) ?_
      refine ⟨_, rfl, rfl, _, rfl, ?_⟩
      by_cases hk1 : kd = 1
      · refine iteTb (decide_eq_true (by rw [hk1])) ?_
        refine ⟨(by show 3 ≤ sizeLine; decide), fun l1 h1 => ⟨(by show 4 ≤ sizeLine; decide), fun l2 h2 => ⟨(by show 2 ≤ sizeLine; decide), fun l3 h3 => ⟨(by show 3 ≤ sizeLine; decide), fun l4 h4 => ⟨(by show 4 ≤ sizeLine; decide), fun l5 h5 => ⟨(by show 2 ≤ sizeLine; decide), fun l6 h6 => ⟨(by show 2 ≤ sizeLine; decide), fun l7 h7 => ⟨_, _, rfl, rfl, ⟨by decide, by decide, by decide⟩, (by show 1 ≤ sizeLine; decide), fun l8 h8 => ⟨(by show 8 ≤ sizeLine; decide), fun L hL => ?_⟩⟩⟩⟩⟩⟩⟩⟩⟩
        have s1 := same_new (o := .lst [V.int 1, .int 3, .int 2]) h1
        have s2 := same_new (o := .lst [V.int 1, .int 3, .int 5, .int 2]) h2
        have s3 := same_new (o := .lst [V.int 1, .int 1]) h3
        have s4 := same_new (o := .lst [V.int 2, .int 1, .int 3]) h4
        have s5 := same_new (o := .lst [V.int 4, .int 1, .int 2, .int 6]) h5
        have s6 := same_new (o := .lst [V.int 1, .int 2]) h6
        have s7 := same_new (o := .lst [V.int 5, .int 3]) h7
        have s8 := same_new (o := .lst [V.int ((10 : Int) ^ (12 : Int).toNat)]) h8
        have sL := same_new (o := .lst [V.ref l1, .ref l2, .ref l3, .ref l4, .ref l5, .ref l6, .ref l7, .ref l8]) hL
        have z8 := sL
        have z7 := s8.trans z8
        have z6 := s7.trans z7
        have z5 := s6.trans z6
        have z4 := s5.trans z5
        have z3 := s4.trans z4
        have z2 := s3.trans z3
        have z1 := s2.trans z2
        have e1 := z1 _ _ upd_same
        have e2 := z2 _ _ upd_same
        have e3 := z3 _ _ upd_same
        have e4 := z4 _ _ upd_same
        have e5 := z5 _ _ upd_same
        have e6 := z6 _ _ upd_same
        have e7 := z7 _ _ upd_same
        have e8 := z8 _ _ upd_same
        have z0 := s1.trans z1
        have R4 := R3.mono z0
        have kx4 : Kx a H _ := kx3.trans (Kx.of z0)
        have n1 := (R3.new h1).symm
        have n2 := ((R3.mono s1).new h2).symm
        have n3 := ((R3.mono (s1.trans s2)).new h3).symm
        have n4 := ((R3.mono ((s1.trans s2).trans s3)).new h4).symm
        have n5 := ((R3.mono (((s1.trans s2).trans s3).trans s4)).new h5).symm
        have n6 := ((R3.mono ((((s1.trans s2).trans s3).trans s4).trans s5)).new h6).symm
        have n7 := ((R3.mono (((((s1.trans s2).trans s3).trans s4).trans s5).trans s6)).new h7).symm
        have n8 := ((R3.mono ((((((s1.trans s2).trans s3).trans s4).trans s5).trans s6).trans s7)).new h8).symm
        have nL := ((R3.mono (((((((s1.trans s2).trans s3).trans s4).trans s5).trans s6).trans s7).trans s8)).new hL).symm
        refine ⟨_, rfl, _, rfl, a, L, _, b + 2, rfl, R4, by omega, nL, upd_same, by show 0 < 8; decide, by show 8 < 1000; decide, fun x H9 hx kx9 R9 => ?_⟩
        have fin : ∀ (g : Addr) (gs : List Int), g ≠ a → (upd _ L (.lst [V.ref l1, .ref l2, .ref l3, .ref l4, .ref l5, .ref l6, .ref l7, .ref l8])) g = some (.lst (gs.map V.int)) → GapsOk gs → Q (.ref g) H9 := fun g gs n e ok => k g gs H9 n (kx9 _ _ n e) ok (kx4.trans kx9) (R9.le (by omega))
        simp only [List.mem_cons, List.not_mem_nil, or_false] at hx
        rcases hx with rfl | rfl | rfl | rfl | rfl | rfl | rfl | rfl
        · exact fin l1 [1, 3, 2] n1 e1 ⟨by decide, by decide⟩
        · exact fin l2 [1, 3, 5, 2] n2 e2 ⟨by decide, by decide⟩
        · exact fin l3 [1, 1] n3 e3 ⟨by decide, by decide⟩
        · exact fin l4 [2, 1, 3] n4 e4 ⟨by decide, by decide⟩
        · exact fin l5 [4, 1, 2, 6] n5 e5 ⟨by decide, by decide⟩
        · exact fin l6 [1, 2] n6 e6 ⟨by decide, by decide⟩
        · exact fin l7 [5, 3] n7 e7 ⟨by decide, by decide⟩
        · exact fin l8 [(10 : Int) ^ (12 : Int).toNat] n8 e8 ⟨by decide, by decide⟩
      · refine iteFb (decide_eq_false fun e => hk1 (V.int.inj e)) ?_
        refine ⟨_, rfl, _, _, rfl, rfl, ⟨by decide, by decide, by decide⟩, (by show 4 ≤ sizeLine; decide), fun q2 hq2 => ?_⟩
        refine ⟨a, q2, _, b + 2, rfl, R3.mono (same_new hq2), by omega, (R3.new hq2).symm, upd_same, by show 0 < 4; decide, by show 4 < 1000; decide, fun x H4 hx kx4 R4 => ?_⟩
        obtain ⟨ms, rfl, ms1, ms2⟩ : ∃ ms : Int, x = .int ms ∧ 1 ≤ ms ∧ ms ≤ 1000000000000 := by
          simp only [List.mem_cons, List.not_mem_nil, or_false] at hx
          rcases hx with rfl | rfl | rfl | rfl <;> exact ⟨_, rfl, by decide, by decide⟩
        have kx4 : Kx a H H4 := kx3.trans ((Kx.of (same_new hq2)).trans kx4)
        refine ⟨_, rfl, sz, rfl, by omega, by omega, fun D hD => ?_⟩
        have naD : a ≠ D := R4.new hD
        refine lc_range (lo := 0) (n := sz.toNat) (fun i H' => ∃ gs : List Int, gs.length = i ∧ (∀ g ∈ gs, 1 ≤ g ∧ g ≤ 1000000000000) ∧ H' D = some (.lst (gs.map V.int)) ∧ Kx a H4 H' ∧ Src H' a (b + 3 + i)) ⟨[], rfl, fun g hg => (nomatch hg), upd_same, Kx.of (same_new hD), R4.mono (same_new hD)⟩ (fun i H' hi p => ?_) (fun H' p => ?_)
        · obtain ⟨gs, hl, hg, hd, kx, R⟩ := p
          refine ⟨rfl, ?_⟩
          refine yes_t (iteT ?_)
          refine ⟨_, rfl, _, rfl, a, ms, b + 3 + i, rfl, R, by omega, ms1, by omega, fun r H5 r0 r1 kx5 R5 => ⟨_, _, rfl, rfl, gs.map V.int, kx5 D _ naD.symm hd, ?_, gs ++ [1 + r], ?_, ?_, ?_, ?_, ?_⟩⟩
          · rw [List.length_map]
            exact small1000 (by omega)
          · rw [List.length_append, hl]
            rfl
          · intro g hm
            rcases List.mem_append.mp hm with hm | hm
            · exact hg g hm
            · obtain rfl := List.mem_singleton.mp hm
              omega
          · rw [upd_same, List.map_append]
            rfl
          · intro c u n e
            rw [upd_ne (ne_of_none e hD)]
            exact kx5 c u n (kx c u n e)
          · obtain ⟨s0, s1, s2, h1, h2⟩ := R5.ex
            exact ⟨s0, s1, s2, by rw [upd_ne naD]; exact h1, h2⟩
        obtain ⟨gs, hl, hg, hd, kx, R⟩ := p
        exact k D gs H' naD.symm hd ⟨by omega, hg⟩ (kx4.trans kx) (R.le (by omega))
end
end RS
namespace RS
open PySem L2
/-! ### the mathematics of offsets and gaps -/
def geo (b : Int) : Nat → Int
  | 0 => 0
  | k + 1 => geo b k + b ^ k
theorem geo_eq (b : Int) : ∀ k, b ^ k - 1 = (b - 1) * geo b k
  | 0 => by simp [geo]
  | k + 1 => by
    rw [geo, Int.mul_add, ← geo_eq b k, Int.pow_succ, Int.sub_mul, Int.one_mul, Int.mul_comm b (b ^ k)]
    omega
theorem geo_div {b : Int} (h : 2 ≤ b) (x : Int) (k : Nat) : x * (b ^ k - 1) / (b - 1) = x * geo b k := by
  rw [geo_eq, ← Int.mul_assoc, Int.mul_comm x (b - 1), Int.mul_assoc]
  exact Int.mul_ediv_cancel_left _ (by omega)
theorem off_low {gs : List Int} {tl : Tl} {n : Nat} (h : n ≤ gs.length) : off gs tl n = pre gs n := if_pos h
theorem off_times {gs : List Int} {b : Int} (h2 : 2 ≤ b) {n : Nat} (h : gs.length ≤ n) : off gs (.times b) n = pre gs gs.length + lastG gs * b * geo b (n - gs.length) := by
  by_cases e : n = gs.length
  · subst e
    rw [off_low (Nat.le_refl _), Nat.sub_self]
    simp [geo]
  · have e1 : off gs (.times b) n = pre gs gs.length + lastG gs * b * (b ^ (n - gs.length) - 1) / (b - 1) := if_neg (by omega)
    rw [e1, geo_div h2]
theorem off_rep {gs : List Int} {m : Nat} (h1 : 1 ≤ m) (h2 : m ≤ gs.length) {n : Nat} (h : gs.length ≤ n) : off gs (.rep m) n = pre gs (gs.length - m + (n - gs.length) % m) + (((n - gs.length) / m : Nat) + 1) * per gs m := by
  by_cases e : n = gs.length
  · subst e
    rw [off_low (Nat.le_refl _), Nat.sub_self, Nat.zero_mod, Nat.zero_div]
    unfold per
    simp
    omega
  · exact if_neg (by omega)
theorem gap_low {gs : List Int} {tl : Tl} {n : Nat} (h : n < gs.length) : gapf gs tl n = gs.getD n 0 := if_pos h
theorem gap_times {gs : List Int} {b : Int} {n : Nat} (h : gs.length ≤ n) : gapf gs (.times b) n = lastG gs * b ^ (n - gs.length + 1) := if_neg (by omega)
theorem gap_rep {gs : List Int} {m n : Nat} (h : gs.length ≤ n) : gapf gs (.rep m) n = gs.getD (gs.length - m + (n - gs.length) % m) 0 := if_neg (by omega)
theorem pre_succD {gs : List Int} {k : Nat} (h : k < gs.length) : pre gs (k + 1) = pre gs k + gs.getD k 0 := pre_succ gs (getD_get h)
/-- the next attempt lies one gap later -/
theorem off_succ {gs : List Int} {tl : Tl} (ok : TlOk gs.length tl) {n : Nat} (hf : tl = .fin → n < gs.length) : off gs tl (n + 1) = off gs tl n + gapf gs tl n := by
  by_cases h : n < gs.length
  · rw [off_low (by omega), off_low (by omega), gap_low h, pre_succD h]
  · cases tl with
    | fin => exact absurd (hf rfl) h
    | times b =>
      have h2 := ok.2.1
      rw [off_times h2 (by omega), off_times h2 (by omega), gap_times (by omega), show n + 1 - gs.length = (n - gs.length) + 1 by omega, geo, Int.mul_add, Int.pow_succ, Int.mul_assoc, Int.mul_assoc, Int.mul_comm (b ^ (n - gs.length)) b]
      omega
    | rep m =>
      have h1 : 1 ≤ m := ok.1
      have h2 : m ≤ gs.length := ok.2
      rw [off_rep h1 h2 (by omega), off_rep h1 h2 (by omega), gap_rep (by omega)]
      generalize hd : n - gs.length = d
      rw [show n + 1 - gs.length = d + 1 by omega]
      have hr : d % m < m := Nat.mod_lt _ (by omega)
      have e0 : m * (d / m) + d % m = d := Nat.div_add_mod d m
      by_cases hl : d % m + 1 < m
      · have e1 : (d + 1) % m = d % m + 1 := by
          rw [← e0, show m * (d / m) + d % m + 1 = (d % m + 1) + m * (d / m) by omega, Nat.add_mul_mod_self_left, Nat.mod_eq_of_lt hl, Nat.add_comm (m * (d / m)), Nat.add_mul_mod_self_left, Nat.mod_mod]
        have e2 : (d + 1) / m = d / m := by
          have h3 := Nat.div_add_mod (d + 1) m
          rw [e1] at h3
          have h4 : m * ((d + 1) / m) = m * (d / m) := by omega
          exact Nat.eq_of_mul_eq_mul_left (by omega) h4
        rw [e1, e2, show gs.length - m + (d % m + 1) = (gs.length - m + d % m) + 1 by omega, pre_succD (by omega)]
        omega
      · have e1 : d + 1 = m * (d / m + 1) := by
          rw [Nat.mul_add, Nat.mul_one]
          omega
        rw [e1, Nat.mul_mod_right, Nat.mul_div_cancel_left _ (by omega), show d % m = m - 1 by omega]
        have e3 : pre gs gs.length = pre gs (gs.length - m + (m - 1)) + gs.getD (gs.length - m + (m - 1)) 0 := by
          rw [← pre_succD (by omega), show gs.length - m + (m - 1) + 1 = gs.length by omega]
        have e4 : per gs m = pre gs gs.length - pre gs (gs.length - m) := rfl
        have e5 : ((d / m + 1 : Nat) + 1 : Int) * per gs m = ((d / m : Nat) + 1 : Int) * per gs m + per gs m := by
          rw [Int.natCast_add, Int.add_mul, Int.natCast_one, Int.one_mul]
        rw [e5, Nat.add_zero]
        omega
theorem gap_grow {gs : List Int} {b : Int} (h0 : 0 < gs.length) {n : Nat} (h : gs.length ≤ n) : gapf gs (.times b) n = gapf gs (.times b) (n - 1) * b := by
  rw [gap_times h]
  by_cases e : n = gs.length
  · subst e
    rw [gap_low (by omega), Nat.sub_self]
    show lastG gs * b ^ 1 = lastG gs * b
    rw [Int.pow_succ, Int.pow_zero, Int.one_mul]
  · rw [gap_times (by omega), show n - gs.length + 1 = (n - 1 - gs.length + 1) + 1 by omega, Int.pow_succ, Int.mul_assoc]
theorem off_later {gs : List Int} {m : Nat} (h1 : 1 ≤ m) (h2 : m ≤ gs.length) (a t : Nat) : off gs (.rep m) (a + gs.length + m * t) = off gs (.rep m) (a + gs.length) + (t : Int) * per gs m := by
  rw [off_rep h1 h2 (by omega), off_rep h1 h2 (by omega), show a + gs.length + m * t - gs.length = a + m * t by omega, show a + gs.length - gs.length = a by omega, Nat.add_mul_mod_self_left, Nat.add_mul_div_left _ _ (by omega), Int.natCast_add]
  rw [Int.add_mul, Int.add_mul, Int.add_mul]
  omega
theorem sum_take_drop (gs : List Int) (k : Nat) : (gs.take k).sum + (gs.drop k).sum = gs.sum := by
  rw [← List.sum_append, List.take_append_drop]
theorem per_sum {gs : List Int} (m : Nat) : (gs.drop (gs.length - m)).sum = per gs m := by
  have h := sum_take_drop gs (gs.length - m)
  have e : pre gs gs.length = gs.sum := by unfold pre; rw [List.take_length]
  unfold per
  rw [e]
  unfold pre
  omega
end RS
namespace RS
open PySem L2
/-! ### the offsets that the law computes gap by gap -/
theorem gap_back {gs : List Int} {m : Nat} (h1 : 1 ≤ m) (h2 : m ≤ gs.length) {j : Nat} (h : gs.length ≤ j) : gapf gs (.rep m) j = gapf gs (.rep m) (j - m) := by
  rw [gap_rep h]
  by_cases e : gs.length ≤ j - m
  · rw [gap_rep e, show j - gs.length = (j - m - gs.length) + m * 1 by omega, Nat.add_mul_mod_self_left]
  · rw [gap_low (by omega), Nat.mod_eq_of_lt (by omega), show gs.length - m + (j - gs.length) = j - m by omega]
def manyN (gs : List Int) : Tl → Nat
  | .fin => gs.length + 1
  | _ => 60
theorem manyN_bd {gs : List Int} (h : gs.length ≤ 20) : ∀ tl : Tl, 1 ≤ manyN gs tl ∧ manyN gs tl ≤ 60
  | .fin => ⟨show 1 ≤ gs.length + 1 by omega, show gs.length + 1 ≤ 60 by omega⟩
  | .times _ => ⟨show 1 ≤ 60 by decide, Nat.le_refl 60⟩
  | .rep _ => ⟨show 1 ≤ 60 by decide, Nat.le_refl 60⟩
def gapL (gs : List Int) (tl : Tl) (n : Nat) : List Int := (List.range n).map (gapf gs tl)
def offL (gs : List Int) (tl : Tl) (n : Nat) : List Int := (List.range n).map (off gs tl)
theorem gapL_len (gs : List Int) (tl : Tl) (n : Nat) : (gapL gs tl n).length = n := by simp [gapL]
theorem offL_len (gs : List Int) (tl : Tl) (n : Nat) : (offL gs tl n).length = n := by simp [offL]
theorem gapL_get (gs : List Int) (tl : Tl) {n k : Nat} (h : k < n) : (gapL gs tl n)[k]? = some (gapf gs tl k) := by
  unfold gapL
  rw [List.getElem?_map, List.getElem?_range h]
  rfl
theorem offL_get (gs : List Int) (tl : Tl) {n k : Nat} (h : k < n) : (offL gs tl n)[k]? = some (off gs tl k) := by
  unfold offL
  rw [List.getElem?_map, List.getElem?_range h]
  rfl
theorem gapL_succ (gs : List Int) (tl : Tl) (n : Nat) : gapL gs tl (n + 1) = gapL gs tl n ++ [gapf gs tl n] := by
  unfold gapL
  rw [List.range_succ, List.map_append]
  rfl
theorem offL_succ (gs : List Int) (tl : Tl) (n : Nat) : offL gs tl (n + 1) = offL gs tl n ++ [off gs tl n] := by
  unfold offL
  rw [List.range_succ, List.map_append]
  rfl
theorem gapL_low (gs : List Int) (tl : Tl) : gapL gs tl gs.length = gs := by
  refine List.ext_getElem? fun i => ?_
  by_cases h : i < gs.length
  · rw [gapL_get gs tl h, gap_low h, getD_get h]
  · rw [List.getElem?_eq_none (by rw [gapL_len]; omega), List.getElem?_eq_none (by omega)]
theorem gapL_take (gs : List Int) (tl : Tl) {n k : Nat} (h : k ≤ n) : (gapL gs tl n).take k = gapL gs tl k := by
  unfold gapL
  rw [← List.map_take, List.take_range, Nat.min_eq_left h]
end RS
namespace RS
open PySem L2
section
variable {P : Program} {w : World} {K : PySem.W.Frag} {mg : Str → Option Value} {base : Heap}
/-! ### the law's tail -/
def WordsOk (ws : List Str) : Prop := 0 < ws.length ∧ ws.length < 1000 ∧ ∀ x ∈ ws, x = "end" ∨ x = "times" ∨ x = "repeat"
def spTl : Sp := fun vs H Q _ => ∃ (a gl wl : Addr) (gs : List Int) (ws : List Str) (b : Nat), vs = [.ref a, .ref gl, .ref wl] ∧ Src H a b ∧ b ≤ 50000 ∧ gl ≠ a ∧ wl ≠ a ∧ H gl = some (.lst (gs.map V.int)) ∧ GapsOk gs ∧ H wl = some (.lst (ws.map V.str)) ∧ WordsOk ws ∧
  ∀ (t : Addr) (tl : Tl) (H' : Hp), t ≠ a → H' t = some (.tup tl.vs) → TlOk gs.length tl → (tl.word ∈ ws ∨ (tl = .fin ∧ gs = [])) → Kx a H H' → Src H' a (b + 10) → Q (.ref t) H'
theorem scTl : FnScope ["_law_source", "_law_gaps_here", "_law_words", "_law_word"] ["_law_source", "_law_gaps_here", "_law_words"] (defScope s_law_tail) := ⟨rfl, rfl, rfl, by decide +kernel, rfl, by decide +kernel, by decide +kernel⟩
theorem ok_tl {f C fN fO : Addr} {fd fdN fdO : FuncData} (F : Fun K "_law_tail" "_law_tail" s_law_tail f fd) (T : Txt K mg C)
    (GN : FnOk P w K mg base CX0 1 fN fdN ["_law_source", "_law_bound"] spNext) (bN : Binds K fdN ["_law_source", "_law_bound"] []) (mN : mg "_law_draw" = some (.ref fN)) (kN : PySem.W.keepIn K (.ref fN) = true)
    (GO : FnOk P w K mg base CX0 2 fO fdO ["_law_source", "_law_options"] spOne) (bO : Binds K fdO ["_law_source", "_law_options"] []) (mO : mg "_law_choice" = some (.ref fO)) (kO : PySem.W.keepIn K (.ref fO) = true) : FnOk P w K mg base CX0 3 f fd ["_law_source", "_law_gaps_here", "_law_words"] spTl := by
  refine F.ok scTl (fun vs H Q E h => ?_) (fun cdv A outer s H vs Q E hr h => ?_)
  · obtain ⟨a, gl, wl, gs, ws, b, rfl, _⟩ := h
    rfl
  · obtain ⟨a, gl, wl, gs, ws, b, rfl, S, hb, ngl, nwl, hg, okG, hw, okW, k⟩ := h
    have hr1 := hr.mono (show 1 ≤ 2 by decide)
    refine ⟨_, (pss_cons (ps_set (i := 3) scTl.nd rfl (Or.inl rfl) (pe_call GO hr rfl mO kO bO .nil pass0 (pa_cons (pv 0) (pa_cons (pv 2) pa_nil)))) (pss_cons (ps_if (PW.pt (pw_or (pt_cmpR (op_eqD hr.units) (pv 1) (pe_lst pa_nil) (nomark _)) (pw_or1 (pt_cmpR op_eq (pv 3) pe_str (nomark _))))) (pss_one (ps_ret (pe_tup (pa_cons pe_str pa_nil)))) pss_nil) (pss_cons (ps_if (pt_cmpR op_eq (pv 3) pe_str (nomark _)) (pss_one (ps_ret (pe_tup (pa_cons pe_str (pa_cons (pe_call GO hr rfl mO kO bO .nil pass0 (pa_cons (pv 0) (pa_cons (pe_lst (pa_cons pe_int (pa_cons pe_int (pa_cons pe_int (pa_cons pe_int (pa_cons pe_int (pa_cons (pe_op op_add pe_int (pe_call GN hr1 rfl mN kN bN .nil pass0 (pa_cons (pv 0) (pa_cons pe_int pa_nil)))) (pa_cons pe_int pa_nil)))))))) pa_nil))) pa_nil))))) pss_nil) (pss_one (ps_ret (pe_tup (pa_cons pe_str (pa_cons (pe_op op_add pe_int (pe_call GN hr1 rfl mN kN bN .nil pass0 (pa_cons (pv 0) (pa_cons (pe_callB call_len_seq (by rfl) T.len (by decide +kernel) (pa_cons (pv 1) pa_nil)) pa_nil)))) pa_nil)))))))), ?_⟩
    refine ⟨_, rfl, _, rfl, a, wl, _, b, rfl, S, by omega, nwl, hw, by rw [List.length_map]; exact okW.1, by rw [List.length_map]; exact okW.2.1, fun x H2 hx kx2 R2 => ?_⟩
    obtain ⟨wd, hwd, rfl⟩ := List.mem_map.mp hx
    have hwords := okW.2.2 wd hwd
    have hg2 := kx2 _ _ ngl hg
    refine ⟨_, rfl, (by show 0 ≤ sizeLine; decide), fun e0 he0 => ?_⟩
    have S3 : Same H2 (upd H2 e0 (.lst [])) := same_new he0
    refine ⟨_, _, list_dp (SqL.of (S3 _ _ hg2)), list_dp (ns := []) (SqL.of upd_same), PySem.W.ke_shaped_ints gs, PySem.W.ke_shaped_ints [], _, rfl, ?_⟩
    rw [list_eqv]
    have kx3 : Kx a H (upd H2 e0 (.lst [])) := kx2.trans (Kx.of S3)
    have hg3 := S3 _ _ hg2
    have R3 := R2.mono S3
    generalize hH3 : upd H2 e0 (.lst []) = H3 at hg3 kx3 R3
    have fin : (("end" : Str) ∈ ws ∨ gs = []) → ∀ D' : Ends, D'.rt = Q → tRet (tTup (tCons (tC (.str "end")) tNil)) D' [some (.ref a), some (.ref gl), some (.ref wl), some (.str wd)] H3 := by
      intro hy D' hD'
      refine ⟨(by show 1 ≤ sizeLine; decide), fun t ht => ?_⟩
      rw [hD']
      refine k t .fin _ (R3.new ht).symm upd_same True.intro ?_ (kx3.trans (Kx.of (same_new ht))) ((R3.mono (same_new ht)).le (by omega))
      exact hy.imp id fun e => ⟨rfl, e⟩
    by_cases hge : gs = []
    · refine iteTb (decide_eq_true hge) (iteT ?_)
      exact fin (.inr hge) _ rfl
    · refine iteFb (decide_eq_false hge) ?_
      have hlen : 0 < gs.length := List.length_pos_iff.mpr hge
      refine ⟨_, rfl, rfl, _, rfl, ?_⟩
      rcases hwords with rfl | rfl | rfl
      · exact iteTb wEE (fin (.inl hwd) _ rfl)
      · refine iteFb wTE ?_
        refine ⟨_, rfl, rfl, _, rfl, iteTb wTT ?_⟩
        refine ⟨_, rfl, _, rfl, a, 30, b + 1, rfl, R3, by omega, by decide, by decide, fun r H4 r0 r1 kx4 R4 => ⟨_, _, rfl, rfl, (by show 7 ≤ sizeLine; decide), fun q hq => ?_⟩⟩
        refine ⟨a, q, _, b + 2, rfl, R4.mono (same_new hq), by omega, (R4.new hq).symm, upd_same, by show 0 < 7; decide, by show 7 < 1000; decide, fun x H5 hx kx5 R5 => ?_⟩
        obtain ⟨bb, rfl, bb1, bb2⟩ : ∃ bb : Int, x = .int bb ∧ 2 ≤ bb ∧ bb ≤ 1000 := by
          simp only [List.mem_cons, List.not_mem_nil, or_false] at hx
          rcases hx with rfl | rfl | rfl | rfl | rfl | rfl | rfl <;> exact ⟨_, rfl, by omega, by omega⟩
        refine ⟨(by show 2 ≤ sizeLine; decide), fun t ht => ?_⟩
        exact k t (.times bb) _ (R5.new ht).symm upd_same ⟨hlen, bb1, bb2⟩ (.inl hwd) (kx3.trans (kx4.trans ((Kx.of (same_new hq)).trans (kx5.trans (Kx.of (same_new ht)))))) ((R5.mono (same_new ht)).le (by omega))
      · refine iteFb wRE ?_
        refine ⟨_, rfl, rfl, _, rfl, iteFb wRT ?_⟩
        refine ⟨_, rfl, _, rfl, gl, _, rfl, .inl (SqL.of hg3), a, (gs.length : Int), b + 1, ?_, R3, by omega, by omega, by have := okG.1; omega, fun r H4 r0 r1 kx4 R4 => ?_⟩
        · rw [List.length_map]
          rfl
        obtain ⟨j, rfl⟩ : ∃ j : Nat, r = (j : Int) := ⟨r.toNat, by omega⟩
        refine ⟨_, _, rfl, rfl, (by show 2 ≤ sizeLine; decide), fun t ht => ?_⟩
        exact k t (.rep (1 + j)) _ (R4.new ht).symm upd_same ⟨by omega, by omega⟩ (.inl hwd) (kx3.trans (kx4.trans (Kx.of (same_new ht)))) ((R4.mono (same_new ht)).le (by omega))
end
end RS
namespace RS
open PySem L2
/-- tuples of two numbers -/
def TupsI (H : Hp) (rs : List Addr) (ps : List (Int × Int)) : Prop := rs.length = ps.length ∧ ∀ (j : Nat) (p : Int × Int), ps[j]? = some p → ∃ r, rs[j]? = some r ∧ H r = some (.tup [.int p.1, .int p.2])
theorem TupsI.kx {H H' : Hp} {rs : List Addr} {ps : List (Int × Int)} (t : TupsI H rs ps) (h : ∀ (r : Addr) (xs : List V), H r = some (.tup xs) → H' r = some (.tup xs)) : TupsI H' rs ps :=
  ⟨t.1, fun j p e => let ⟨r, a, b⟩ := t.2 j p e; ⟨r, a, h _ _ b⟩⟩
theorem TupsI.snoc {H : Hp} {rs : List Addr} {ps : List (Int × Int)} {r : Addr} {a b : Int} (t : TupsI H rs ps) (h : H r = some (.tup [.int a, .int b])) : TupsI H (rs ++ [r]) (ps ++ [(a, b)]) := by
  refine ⟨by rw [List.length_append, List.length_append, t.1]; rfl, fun j p e => ?_⟩
  by_cases hj : j < ps.length
  · rw [List.getElem?_append_left hj] at e
    obtain ⟨r', e1, e2⟩ := t.2 j p e
    exact ⟨r', by rw [List.getElem?_append_left (by rw [t.1]; exact hj)]; exact e1, e2⟩
  · have hl := (List.getElem?_eq_some_iff.mp e).1
    rw [List.length_append, List.length_singleton] at hl
    have ej : j = ps.length := by omega
    subst ej
    rw [List.getElem?_append_right (Nat.le_refl _), Nat.sub_self] at e
    cases e
    exact ⟨r, by rw [← t.1, List.getElem?_append_right (Nat.le_refl _), Nat.sub_self]; rfl, h⟩
theorem TupsI.nil {H : Hp} : TupsI H [] [] := ⟨rfl, fun _ _ e => nomatch e⟩
theorem TupsI.get {H : Hp} {rs : List Addr} {ps : List (Int × Int)} (t : TupsI H rs ps) {i : Nat} {x : V} (h : (rs.map V.ref)[i]? = some x) : ∃ r p, x = .ref r ∧ ps[i]? = some p ∧ H r = some (.tup [.int p.1, .int p.2]) := by
  rw [List.getElem?_map] at h
  cases e : rs[i]? with
  | none => rw [e] at h; cases h
  | some r =>
    rw [e] at h
    cases h
    have hl := (List.getElem?_eq_some_iff.mp e).1
    have hp : ps[i]? = some (ps[i]'(by rw [← t.1]; exact hl)) := List.getElem?_eq_getElem _
    obtain ⟨r', e1, e2⟩ := t.2 i _ hp
    rw [e] at e1
    cases e1
    exact ⟨r, _, rfl, hp, e2⟩
/-! ### lists of pairs as data -/
def winD (ws : List (Int × Int)) : List PyData := ws.map fun p => .tuple [.int p.1, .int p.2]
theorem win_can : ∀ ws : List (Int × Int), PyData.canLayAll0 (winD ws) = true
  | [] => rfl
  | p :: r => by
    show (PyData.canLay0 _ && PyData.canLayAll0 (winD r)) = true
    rw [win_can r]
    rfl
theorem win_depth : ∀ ws : List (Int × Int), PyData.depthAll (winD ws) ≤ 1
  | [] => by decide
  | p :: r => by
    have := win_depth r
    show max 1 (PyData.depthAll (winD r)) ≤ 1
    omega
theorem win_shaped (ws : List (Int × Int)) : SeqAt.shaped (.list (winD ws)) = true := by
  have h1 := win_can ws
  have h2 := win_depth ws
  show (PyData.canLayAll0 (winD ws) && decide (PyData.depthAll (winD ws) + 1 ≤ 64)) = true
  rw [h1, decide_eq_true (by omega)]
  rfl
theorem win_eqv : ∀ ws vs : List (Int × Int), PyData.eqvAll (winD ws) (winD vs) = decide (ws = vs)
  | [], [] => rfl
  | [], _ :: _ => rfl
  | _ :: _, [] => rfl
  | (a, b) :: r, (c, d) :: s => by
    show PyData.eqvAll (.tuple [.int a, .int b] :: winD r) (.tuple [.int c, .int d] :: winD s) = _
    have := win_eqv r s
    simp only [PyData.eqvAll, PyData.eqv, this]
    by_cases h1 : a = c <;> by_cases h2 : b = d <;> by_cases h3 : r = s <;> simp [h1, h2, h3]
theorem win_eqvL (ws vs : List (Int × Int)) : PyData.eqv (.list (winD ws)) (.list (winD vs)) = decide (ws = vs) := win_eqv ws vs
theorem tupsI_dp {K : PySem.W.Frag} {H : Hp} : ∀ {rs : List Addr} {ps : List (Int × Int)}, TupsI H rs ps → DpAll K H (rs.map V.ref) (winD ps)
  | [], [], _ => .nil
  | [], _ :: _, t => nomatch t.1
  | _ :: _, [], t => nomatch t.1
  | r :: rs, p :: ps, t => by
    obtain ⟨r', e1, e2⟩ := t.2 0 p rfl
    cases (Option.some.inj e1 : r = r')
    exact .cons (.tup (SqT.of e2) (.cons (.int _) (.cons (.int _) .nil))) (tupsI_dp ⟨Nat.succ.inj t.1, fun j q e => t.2 (j + 1) q e⟩)
theorem Src.nt {H : Hp} {a r : Addr} {b : Nat} {xs : List V} (S : Src H a b) (h : H r = some (.tup xs)) : r ≠ a := by
  obtain ⟨s0, s1, s2, h1, _⟩ := S.ex
  exact ne_of h h1 (by intro z; cases z)
theorem TupsI.kxs {H H' : Hp} {rs : List Addr} {ps : List (Int × Int)} {a : Addr} {b : Nat} (t : TupsI H rs ps) (S : Src H a b) (kx : Kx a H H') : TupsI H' rs ps := t.kx fun r xs e => kx r _ (S.nt e) e
theorem TupsI.same {H H' : Hp} {rs : List Addr} {ps : List (Int × Int)} (t : TupsI H rs ps) (S : Same H H') : TupsI H' rs ps := t.kx fun r xs e => S r _ e
end RS
namespace RS
open PySem L2 PySem.Spec PyProof.Rows PySem.W
/-! ### min of a list of tuples, without and with a default of None -/
def AlikeD (ds : List PyData) : Prop := AlikeAll ds ∧ PyData.depthAll ds ≤ 60 ∧ ∀ e ∈ ds, e.canLay0 = true
def rMinL (K : PySem.W.Frag) : List V → Hp → VK → Prop := fun vs H Q => ∃ (a : Addr) (xs : List V) (d : PyData) (ds : List PyData), vs = [V.ref a] ∧ SqL K H a xs ∧ DpAll K H xs (d :: ds) ∧ AlikeD (d :: ds) ∧ ∀ (i : Nat) (x : V), xs[i]? = some x → (d :: ds)[i]? = some (minD d ds) → Q x H
theorem vals_get : ∀ {xs : List V} {us : List Value} {i : Nat} {v : Value}, Vals xs us → us[i]? = some v → ∃ x, xs[i]? = some x ∧ RelV x v
  | _, _, _, _, .nil, h => nomatch h
  | _, _, 0, _, .cons r _, h => by
    cases h
    exact ⟨_, rfl, r⟩
  | _, _, i + 1, _, .cons _ rs, h => vals_get (i := i) rs h
theorem data_at {h h' : Heap} {us : List Value} {ds : List PyData} {as bs : List Addr} {i : Nat} {v : Value} {e : PyData} (hr : ReadsAll h us ds as) (hv : us[i]? = some v) (kp : ∀ b o, h.get? b = some o → h'.get? b = some o) (hl : ∀ e ∈ ds, e.canLay0 = true) (r : Reads h' v e bs) : ds[i]? = some e := by
  obtain ⟨cs, r1, hi, hm, _⟩ := readsAll_at hr i v hv
  have r2 := reads_keeps kp r1
  have := (PySem.Reads.unique r2 _ _ r).1
  rw [← this, List.getElem?_eq_getElem hi, List.getD_eq_getElem?_getD, List.getElem?_eq_getElem hi]
  rfl
theorem cr_minL {X : Cx} (hc : X.calm = true) (hu : X.A.units + 64 < cLine) : CallR X (.builtin "min") (rMinL X.K) := by
  intro pins s σ H vs us Q I r h
  obtain ⟨a, xs, d, ds, rfl, hs, hd, ⟨hal, hdp, hlay⟩, q⟩ := h
  obtain ⟨its, rv, hl, _⟩ := I.list hs
  rw [Vals.ref1 r]
  obtain ⟨as, hr⟩ := Dp.readsAll I _ _ _ hd rv
  refine min_list_data (I.ok.hd hc) hl.isList (x := d) (xs := ds) (as := as) (by simpa using hr) hal (by omega) fun i v h' tk bs hv hrd hk => ?_
  have hv' : its[i]? = some v := by simpa using hv
  obtain ⟨x, hx, rx⟩ := vals_get rv hv'
  exact ⟨x, H, I.kept hk, rx, q i x hx (data_at hr hv' hk hlay hrd)⟩
def rMinLD (K : PySem.W.Frag) : List V → List V → Hp → VK → Prop := fun vs zs H Q => ∃ (a : Addr) (xs : List V) (ds : List PyData), vs = [V.ref a] ∧ zs = [V.non] ∧ SqL K H a xs ∧ DpAll K H xs ds ∧ AlikeD ds ∧ (ds = [] → Q .non H) ∧ ∀ (d : PyData) (r : List PyData) (i : Nat) (x : V), ds = d :: r → xs[i]? = some x → ds[i]? = some (minD d r) → Q x H
theorem cr_minLD {X : Cx} (hc : X.calm = true) (hu : X.A.units + 64 < cLine) : CallRK X (.builtin "min") ["default"] (rMinLD X.K) := by
  intro pins s σ H vs zs us ws Q I r rz h
  obtain ⟨a, xs, ds, rfl, rfl, hs, hd, ⟨hal, hdp, hlay⟩, q0, q⟩ := h
  obtain ⟨its, rv, hl, _⟩ := I.list hs
  rw [Vals.ref1 r]
  obtain ⟨d, rfl, rd⟩ := vals1 rz
  cases (show d = Value.none from rd)
  obtain ⟨as, hr⟩ := Dp.readsAll I _ _ _ hd rv
  refine min_list_default (I.ok.hd hc) hl.isList (xs := ds) (as := as) (by simpa using hr) hal (by omega) (fun hz h' tk hk => ⟨.non, H, I.kept hk, rfl, q0 hz⟩) fun y ys i v h' tk bs hds hv hrd hk => ?_
  have hv' : its[i]? = some v := by simpa using hv
  obtain ⟨x, hx, rx⟩ := vals_get rv hv'
  exact ⟨x, H, I.kept hk, rx, q y ys i x hds hx (data_at hr hv' hk hlay hrd)⟩
/-- the least of pairs -/
def pairD (p : Int × Int) : PyData := .tuple [.int p.1, .int p.2]
def pairLt (p q : Int × Int) : Prop := p.1 < q.1 ∨ p.1 = q.1 ∧ p.2 < q.2
theorem pairs_alike (ps : List (Int × Int)) : AlikeD (ps.map pairD) := by
  refine ⟨⟨fun x hx y hy => ?_, fun x hx => ?_⟩, ?_, fun e he => ?_⟩
  · obtain ⟨p, _, rfl⟩ := List.mem_map.mp hx
    obtain ⟨q, _, rfl⟩ := List.mem_map.mp hy
    rfl
  · obtain ⟨p, _, rfl⟩ := List.mem_map.mp hx
    exact fun z => nomatch z
  · induction ps with
    | nil => decide
    | cons p r ih =>
      show max 1 (PyData.depthAll (r.map pairD)) ≤ 60
      omega
  · obtain ⟨p, _, rfl⟩ := List.mem_map.mp he
    rfl
theorem minD_pairs : ∀ (p : Int × Int) (ps : List (Int × Int)), ∃ q ∈ p :: ps, minD (pairD p) (ps.map pairD) = pairD q ∧ ∀ x ∈ p :: ps, ¬ pairLt x q := by
  intro p ps
  induction ps generalizing p with
  | nil => exact ⟨p, List.mem_cons_self .., rfl, fun x hx => by rw [List.mem_singleton.mp hx]; unfold pairLt; omega⟩
  | cons y r ih =>
    by_cases h : pairLt y p
    · obtain ⟨q, h1, h2, h3⟩ := ih y
      refine ⟨q, List.mem_cons_of_mem _ h1, ?_, fun x hx => ?_⟩
      · rw [← h2]
        unfold minD
        rw [List.map_cons, List.foldl_cons]
        have : dataLt (pairD y) (pairD p) = true := by unfold pairD; rw [dataLt_ii]; exact decide_eq_true h
        rw [if_pos this]
      · rcases List.mem_cons.mp hx with rfl | hx
        · have := h3 y (List.mem_cons_self ..)
          unfold pairLt at this h ⊢
          omega
        · exact h3 x hx
    · obtain ⟨q, h1, h2, h3⟩ := ih p
      refine ⟨q, ?_, ?_, fun x hx => ?_⟩
      · rcases List.mem_cons.mp h1 with rfl | h1
        · exact List.mem_cons_self ..
        · exact List.mem_cons_of_mem _ (List.mem_cons_of_mem _ h1)
      · rw [← h2]
        unfold minD
        rw [List.map_cons, List.foldl_cons]
        have : ¬ dataLt (pairD y) (pairD p) = true := by unfold pairD; rw [dataLt_ii, decide_eq_true_iff]; exact h
        rw [if_neg this]
      · rcases List.mem_cons.mp hx with rfl | hx
        · exact h3 x (List.mem_cons_self ..)
        · rcases List.mem_cons.mp hx with rfl | hx
          · have := h3 p (List.mem_cons_self ..)
            unfold pairLt at this h ⊢
            omega
          · exact h3 x (List.mem_cons_of_mem _ hx)
end RS
namespace RS
open PySem L2
section
variable {P : Program} {w : World} {K : PySem.W.Frag} {mg : Str → Option Value} {base : Heap}
def spLO (C : Addr) : Sp := fun vs H Q _ => ∃ (p g t o : Addr) (gs : List Int) (tl : Tl), vs = [.ref p] ∧ RuleAt C H p g t o gs tl ∧ ∀ q H', H q = none → Same H H' → H' q = some (.lst ((offs gs).map V.int)) → Q (.ref q) H'
theorem scLO : FnScope ["rule"] ["rule"] (defScope s_listed_offsets) := ⟨rfl, rfl, rfl, by decide +kernel, rfl, by decide +kernel, by decide +kernel⟩
theorem ok_lo {f C fS fG : Addr} {fd fdS fdG : FuncData} (F : Fun K "listed_offsets" "listed_offsets" s_listed_offsets f fd) (T : Txt K mg C) (GS : FnOk P w K mg base CX0 1 fS fdS ["gaps"] spSums) (bS : Binds K fdS ["gaps"] []) (mS : mg "sums" = some (.ref fS)) (kS : PySem.W.keepIn K (.ref fS) = true)
    (GG : FnOk P w K mg base CX0 1 fG fdG ["self"] (spGaps C)) (bG : Binds K fdG ["self"] []) (mG : Meth K C "gaps" fG) : FnOk P w K mg base CX0 2 f fd ["rule"] (spLO C) := by
  refine F.ok scLO (fun vs H Q E h => ?_) (fun cdv A outer s H vs Q E hr h => ?_)
  · obtain ⟨p, g, t, o, gs, tl, rfl, _⟩ := h
    rfl
  · obtain ⟨p, g, t, o, gs, tl, rfl, R, k⟩ := h
    refine ⟨_, (pss_one (ps_ret (pe_call GS hr rfl mS kS bS .nil pass0 (pa_cons (pe_meth0 (pv 0) T.cl mG GG hr bG .nil pass0) pa_nil)))), ?_⟩
    obtain ⟨dx, hob⟩ := R.ob
    have hl := R.okG.1
    refine ⟨_, rfl, p, dx, _, rfl, hob, flds_no _ _ _ (by decide +kernel) (by decide +kernel) (by decide +kernel), p, g, t, o, gs, tl, rfl, R, fun l hl0 => ?_⟩
    have S := same_new (o := .lst (gs.map V.int)) hl0
    refine ⟨l, gs, rfl, upd_same, by omega, fun q H' hq S' hq' => k q H' (S.free hq) (S.trans S') hq'⟩
end
end RS
namespace PySem
open PySem.Spec PyProof.Rows PySem.W
section
variable {prog : Program} {w : World} {A : Around} {E : Value → Shared → Prop} {s : Shared}
/-! ### min of two values, by their data -/
theorem min_two_data {a b : Value} {x y : PyData} {as : List Addr} {Q : Value → Shared → Prop} (hh : A.handled = none) (hr : ReadsAll s.heap [a, b] [x, y] as) (ha : AlikeAll [x, y]) (hu : A.units + 1 + PyData.depthAll [x, y] < cLine)
    (h : ∀ h' tk, (∀ b o, s.heap.get? b = some o → h'.get? b = some o) → Q (if dataLt y x = true then b else a) { s with heap := h', toks := tk }) :
    wpAny (model prog w) A (call (.builtin "min") [a, b]) Q E s := by
  have hname : (toString "min" ++ toString ".loop" : String) = "min.loop" := by decide
  refine call_function_tree F.kind_min F.plain_min F.entry_min (F.args_min2 _ _) ?_
  show wpAny _ A.in1 (Builtin.Builtins.bindParams "min" ["key", "default"] 0 ⟨[], []⟩ >>= _) _ _ s
  refine wpAny_bind (wpAny_of_eq (show Builtin.Builtins.bindParams "min" ["key", "default"] 0 ⟨[], []⟩ = pure [none, none] from rfl) ?_)
  show wpAny _ A.in1 (newTuple [a, b] >>= _) _ _ s
  refine wpAny_bind (wpAny_newObj_type ?_)
  have ht : (s.heap.push { cls := .type "tuple", data := .seq #[a, b] }).IsTuple s.heap.objs.size #[a, b] := ⟨_, Heap.get?_push_size _ rfl, rfl, _, rfl⟩
  have kp : ∀ b' o, s.heap.get? b' = some o → (s.heap.push { cls := .type "tuple", data := .seq #[a, b] }).get? b' = some o := fun b' o e => Heap.get?_push_of_some _ e
  have hr2 : ReadsAll (s.heap.push { cls := .type "tuple", data := .seq #[a, b] }) (#[a, b] : Array Value).toList [x, y] as := ReadsAll.keeps kp hr
  refine wpAny_bind (iter_tupleW (A := A.in1) hh ht fun s₂ e W st hfp hw hk => ?_)
  refine wpAny_bind (wpAny_newObj_type ?_)
  have hSf : s₂.heap.objs.size ∉ [(s.heap.push { cls := .type "tuple", data := .seq #[a, b] }).objs.size, s.heap.objs.size] := fun hm => Nat.lt_irrefl _ (hfp _ hm)
  rw [hname]
  have hcmp := cmpIn_lt (prog := prog) (w := w) (A := A.in1) (s := { s with heap := s.heap.push { cls := .type "tuple", data := .seq #[a, b] } }) hr2 ha (by show A.units + 1 + _ < _; exact hu)
  refine wpAny_pure ⟨plainId_quiet F.plain_min_loop _, codeAny_min_loop_firstH W _ hw _ hcmp s₂.heap.objs.size hSf (fresh_in hk) _ (Nat.succ_pos 1) (fun b o e => Heap.get?_push_of_some _ (hk b o e)) (W.frame 0 s₂ _ s₂.toks st (Nat.le_refl _) fun b _ o e => Heap.get?_push_of_some _ e) (Heap.get?_push_size _ rfl) fun v s' hP hm => ?_⟩
  have hm2 := Moved.drop_new (tk := s₂.toks) hm (Nat.le_refl _)
  obtain ⟨h', tk, rfl, hk'⟩ := moved_old e rfl hm2
  have hv : v = (if dataLt y x = true then b else a) := by
    have hP : (#[a, b] : Array Value)[argBest (fun i j => dataLt (([x, y] : List PyData).getD i .none) (([x, y] : List PyData).getD j .none)) 1]? = some v := hP
    have e1 : argBest (fun i j => dataLt (([x, y] : List PyData).getD i .none) (([x, y] : List PyData).getD j .none)) 1 = if dataLt y x = true then 1 else 0 := by
      simp [argBest]
    rw [e1] at hP
    by_cases hc : dataLt y x = true
    · rw [if_pos hc] at hP ⊢
      exact (Option.some.inj hP).symm
    · rw [if_neg hc] at hP ⊢
      exact (Option.some.inj hP).symm
  rw [hv]
  exact h h' tk fun b' o e2 => hk' b' o (kp b' o e2)
end
end PySem
namespace RS
open PySem L2 PySem.Spec PyProof.Rows PySem.W
def rMin2D (K : PySem.W.Frag) : List V → Hp → VK → Prop := fun vs H Q => ∃ (x y : V) (dx dy : PyData), vs = [x, y] ∧ DpAll K H [x, y] [dx, dy] ∧ AlikeD [dx, dy] ∧ Q (if dataLt dy dx = true then y else x) H
theorem cr_min2D {X : Cx} (hc : X.calm = true) (hu : X.A.units + 64 < cLine) : CallR X (.builtin "min") (rMin2D X.K) := by
  intro pins s σ H vs us Q I r h
  obtain ⟨x, y, dx, dy, rfl, hd, ⟨hal, hdp, hlay⟩, q⟩ := h
  obtain ⟨u, v, rfl, ru, rv⟩ := vals2 r
  obtain ⟨as, hr⟩ := Dp.readsAll I _ _ _ hd (.cons ru (.cons rv .nil))
  refine min_two_data (I.ok.hd hc) hr hal (by omega) fun h' tk hk => ?_
  refine ⟨_, H, I.kept hk, ?_, q⟩
  split
  · exact rv
  · exact ru
end RS
namespace RS
open PySem L2
/-! ### first attempts from a distance on: the mathematics -/
theorem gap_pos {gs : List Int} {tl : Tl} (okG : GapsOk gs) (okT : TlOk gs.length tl) {n : Nat} (hf : tl = .fin → n < gs.length) : 1 ≤ gapf gs tl n := by
  by_cases h : n < gs.length
  · rw [gap_low h]
    exact (gap_bd okG h).1
  · cases tl with
    | fin => exact absurd (hf rfl) h
    | times b =>
      rw [gap_times (by omega)]
      have h1 : 1 ≤ lastG gs := (gap_bd okG (k := gs.length - 1) (by have := okT.1; omega)).1
      have h2 : 0 < b ^ (n - gs.length + 1) := Int.pow_pos (by have := okT.2.1; omega)
      have h3 := Int.mul_le_mul h1 (show 1 ≤ b ^ (n - gs.length + 1) by omega) (by decide) (by omega)
      omega
    | rep m =>
      rw [gap_rep (by omega)]
      have h1 : (n - gs.length) % m < m := Nat.mod_lt _ (by have := okT.1; omega)
      exact (gap_bd okG (by have := okT.2; omega)).1
theorem off_mono {gs : List Int} {tl : Tl} (okG : GapsOk gs) (okT : TlOk gs.length tl) (i : Nat) : ∀ k, (tl = .fin → i + k ≤ gs.length) → off gs tl i + (k : Int) ≤ off gs tl (i + k)
  | 0, _ => by simp
  | k + 1, h => by
    have ih := off_mono okG okT i k fun e => by have := h e; omega
    have hf : tl = .fin → i + k < gs.length := fun e => by have := h e; omega
    have hg := gap_pos okG okT hf
    have hs := off_succ okT hf
    rw [show i + (k + 1) = i + k + 1 by omega, hs]
    omega
theorem off_lt {gs : List Int} {tl : Tl} (okG : GapsOk gs) (okT : TlOk gs.length tl) {i j : Nat} (h : i < j) (hf : tl = .fin → j ≤ gs.length) : off gs tl i < off gs tl j := by
  have := off_mono okG okT i (j - i) fun e => by have := hf e; omega
  rw [show i + (j - i) = j by omega] at this
  omega
theorem AttOk.fin {gs : List Int} {tl : Tl} {n : Nat} (h : AttOk gs tl n) : tl = .fin → n ≤ gs.length := fun e => by subst e; exact h
/-- what first_from hands back -/
def FF (gs : List Int) (tl : Tl) (d : Int) (r : V) : Prop := (r = .non ∧ tl = .fin ∧ pre gs gs.length < d) ∨ ∃ n : Nat, r = .int (n : Int) ∧ AttOk gs tl n ∧ d ≤ off gs tl n ∧ (0 < n → off gs tl (n - 1) < d)
theorem FF_one {gs : List Int} {tl : Tl} (okG : GapsOk gs) (okT : TlOk gs.length tl) {d : Int} {r s : V} (h1 : FF gs tl d r) (h2 : FF gs tl d s) : r = s := by
  have key : ∀ {n m : Nat}, AttOk gs tl n → AttOk gs tl m → d ≤ off gs tl n → (0 < m → off gs tl (m - 1) < d) → ¬ n < m := by
    intro n m hn hm h3 h4 h5
    have h6 := h4 (by omega)
    have h7 : off gs tl n ≤ off gs tl (m - 1) := by
      by_cases e : n = m - 1
      · rw [← e]
        exact Int.le_refl _
      · exact Int.le_of_lt (off_lt okG okT (by omega) fun e => by have := hm.fin e; omega)
    omega
  have low : ∀ {n : Nat}, tl = .fin → AttOk gs tl n → d ≤ off gs tl n → ¬ pre gs gs.length < d := by
    intro n e hn h3 h4
    subst e
    have hn : n ≤ gs.length := hn
    have h5 := off_mono okG okT n (gs.length - n) fun _ => by omega
    rw [show n + (gs.length - n) = gs.length by omega, off_low (Nat.le_refl gs.length)] at h5
    omega
  rcases h1 with ⟨rfl, e1, l1⟩ | ⟨n, rfl, a1, b1, c1⟩ <;> rcases h2 with ⟨rfl, e2, l2⟩ | ⟨m, rfl, a2, b2, c2⟩
  · rfl
  · exact absurd l1 (low e1 a2 b2)
  · exact absurd l2 (low e2 a1 b1)
  · have x := key a1 a2 b1 c2
    have y := key a2 a1 b2 c1
    rw [show n = m by omega]
/-- what attempt_at hands back -/
def AA (gs : List Int) (tl : Tl) (d : Int) (r : V) : Prop := ∃ a, FF gs tl d a ∧ ((∃ n : Nat, a = .int (n : Int) ∧ off gs tl n = d ∧ r = a) ∨ ((∀ n : Nat, a = .int (n : Int) → off gs tl n ≠ d) ∧ r = .non))
theorem off_turn {gs : List Int} {m : Nat} (h1 : 1 ≤ m) (h2 : m ≤ gs.length) {j : Nat} (hj0 : gs.length - m ≤ j) (hj1 : j ≤ gs.length) (q : Nat) : off gs (.rep m) (j + m * q) = pre gs j + (q : Int) * per gs m := by
  cases q with
  | zero =>
    rw [Nat.mul_zero, Nat.add_zero, off_low hj1]
    simp
  | succ q =>
    have e0 : m * (q + 1) = m * q + m := Nat.mul_succ m q
    rw [off_rep h1 h2 (by omega)]
    by_cases hj : j = gs.length
    · subst hj
      rw [show gs.length + m * (q + 1) - gs.length = m * (q + 1) by omega, Nat.mul_mod_right, Nat.mul_div_cancel_left _ (by omega), Nat.add_zero, Int.add_mul, Int.one_mul]
      have e1 : per gs m = pre gs gs.length - pre gs (gs.length - m) := rfl
      omega
    · rw [show j + m * (q + 1) - gs.length = (j - (gs.length - m)) + m * q by omega, Nat.add_mul_mod_self_left, Nat.add_mul_div_left _ _ (by omega), Nat.mod_eq_of_lt (by omega), Nat.div_eq_of_lt (by omega), Nat.zero_add, show gs.length - m + (j - (gs.length - m)) = j by omega]
      rw [Int.natCast_add, Int.natCast_one]
end RS
namespace RS
open PySem L2
section
variable {P : Program} {w : World} {K : PySem.W.Frag} {mg : Str → Option Value} {base : Heap}
/-! ### _first_at_least -/
def spFal : Sp := fun vs H Q _ => ∃ (o : Addr) (xs : List Int) (d : Int) (j : Nat), vs = [.ref o, .int d] ∧ H o = some (.lst (xs.map V.int)) ∧ j < xs.length ∧ d ≤ xs.getD j 0 ∧ ∀ n : Nat, n ≤ j → d ≤ xs.getD n 0 → (∀ i, i < n → xs.getD i 0 < d) → Q (.int (n : Int)) H
theorem scFal : FnScope ["offsets", "distance", "position"] ["offsets", "distance"] (defScope s_first_at_least) := ⟨rfl, rfl, rfl, by decide +kernel, rfl, by decide +kernel, by decide +kernel⟩
theorem ok_fal {f : Addr} {fd : FuncData} (F : Fun K "_first_at_least" "_first_at_least" s_first_at_least f fd) : FnOk P w K mg base CX0 1 f fd ["offsets", "distance"] spFal := by
  refine F.ok scFal (fun vs H Q E h => ?_) (fun cdv A outer s H vs Q E hr h => ?_)
  · obtain ⟨o, xs, d, j, rfl, _⟩ := h
    rfl
  · obtain ⟨o, xs, d, j, rfl, ho, hj, hd, k⟩ := h
    refine ⟨_, (pss_cons (ps_set (i := 2) scFal.nd rfl (Or.inl rfl) pe_int) (pss_cons (ps_while PassesOwn.never (pt_cmpR op_lt (pe_ix ix_list (pv 0) (pv 2) (fun _ _ => rfl)) (pv 1) (nomark _)) (pss_one (ps_set (i := 2) scFal.nd rfl (Or.inl rfl) (pe_op op_add (pv 2) pe_int)))) (pss_one (ps_ret (pv 2))))), ?_⟩
    refine ⟨fun m σ H' => H' = H ∧ ∃ i : Nat, i ≤ j ∧ m = j - i ∧ σ = [some (.ref o), some (.int d), some (.int (i : Int))] ∧ ∀ k, k < i → xs.getD k 0 < d, ⟨j, rfl, 0, Nat.zero_le _, rfl, rfl, fun k hk => absurd hk (Nat.not_lt_zero _)⟩, ?_⟩
    rintro m σ H' ⟨rfl, i, hi, rfl, rfl, hall⟩
    refine ⟨_, rfl, _, rfl, o, _, _, _, rfl, rfl, SqL.of ho, at_map (getD_get (by omega)), _, rfl, _, _, rfl, rfl, _, rfl, ?_⟩
    by_cases hlt : xs.getD i 0 < d
    · refine iteTb (decide_eq_true hlt) ?_
      have hne : i ≠ j := fun e => by subst e; omega
      refine ⟨fun σ' H2 => H2 = H' ∧ σ' = [some (.ref o), some (.int d), some (.int ((i : Int) + 1))], ?_, ?_⟩
      · rintro σ' H2 ⟨rfl, rfl⟩
        refine ⟨j - (i + 1), by omega, rfl, i + 1, by omega, rfl, rfl, fun k hk => ?_⟩
        by_cases e : k = i
        · subst e
          exact hlt
        · exact hall k (by omega)
      · exact ⟨_, rfl, _, _, rfl, rfl, rfl, rfl⟩
    · refine iteFb (decide_eq_false hlt) ?_
      exact ⟨_, rfl, k i hi (by omega) hall⟩
/-! ### _surely_short -/
theorem geo_short {b : Int} (h : 2 ≤ b) : ∀ k, b * geo b k < 2 * b ^ k
  | 0 => by simp [geo]
  | k + 1 => by
    have ih := geo_short h k
    have p : 0 < b ^ k := Int.pow_pos (by omega)
    have e : 2 * b ^ k ≤ b * b ^ k := Int.mul_le_mul_of_nonneg_right h (Int.le_of_lt p)
    rw [geo, Int.mul_add, Int.pow_succ, Int.mul_comm (b ^ k) b]
    omega
theorem bits_nat {n : Nat} (h : 0 < n) : ∃ j, Builtin.Int.intBits (n : Int) = j + 1 ∧ 2 ^ j ≤ n ∧ n < 2 ^ (j + 1) := by
  refine ⟨n.log2, ?_, Nat.log2_self_le (by omega), Nat.lt_log2_self⟩
  unfold Builtin.Int.intBits
  rw [if_neg (by simp; omega)]
  rfl
theorem short_ok {L b way : Int} (hL : 1 ≤ L) (hb : 2 ≤ b) (hw : 0 < way) {k : Nat} (h : (k : Int) ≤ (((Builtin.Int.intBits way : Nat) : Int) - ((Builtin.Int.intBits L : Nat) : Int) - 2) / ((Builtin.Int.intBits (b - 1) : Nat) : Int)) : 2 * L * b ^ k ≤ way := by
  obtain ⟨L, rfl⟩ := Int.eq_ofNat_of_zero_le (show 0 ≤ L by omega)
  obtain ⟨way, rfl⟩ := Int.eq_ofNat_of_zero_le (show 0 ≤ way by omega)
  obtain ⟨c, hc⟩ := Int.eq_ofNat_of_zero_le (show 0 ≤ b - 1 by omega)
  have eb : b = ((c + 1 : Nat) : Int) := by omega
  rw [hc] at h
  subst eb
  obtain ⟨w, ew, hw1, _⟩ := bits_nat (n := way) (by omega)
  obtain ⟨l, el, _, hl1⟩ := bits_nat (n := L) (by omega)
  obtain ⟨d, ed, _, hd1⟩ := bits_nat (n := c) (by omega)
  rw [ew, el, ed] at h
  have h2 : (k : Int) * ((d + 1 : Nat) : Int) ≤ ((w + 1 : Nat) : Int) - ((l + 1 : Nat) : Int) - 2 :=
    Int.le_trans (Int.mul_le_mul_of_nonneg_right h (by omega)) (Int.ediv_mul_le _ (by omega))
  rw [← Int.natCast_mul] at h2
  have h3 : k * (d + 1) + l + 2 ≤ w := by omega
  have p1 : (c + 1) ^ k ≤ (2 ^ (d + 1)) ^ k := Nat.pow_le_pow_left (by omega) k
  rw [← Nat.pow_mul, Nat.mul_comm] at p1
  have p2 : L * (c + 1) ^ k ≤ 2 ^ (l + 1) * 2 ^ (k * (d + 1)) := Nat.mul_le_mul (by omega) p1
  rw [← Nat.pow_add] at p2
  have p3 : 2 ^ (l + 1 + k * (d + 1)) * 2 ≤ 2 ^ w := by
    rw [← Nat.pow_succ]
    exact Nat.pow_le_pow_right (by decide) (by omega)
  have p4 : 2 * (L * (c + 1) ^ k) ≤ way := by omega
  rw [Int.mul_assoc]
  exact_mod_cast p4
def spSs (C : Addr) : Sp := fun vs H Q _ => ∃ (p g t o : Addr) (gs : List Int) (b d : Int), vs = [.ref p, .int d] ∧ RuleAt C H p g t o gs (.times b) ∧ 0 < d ∧ ∀ k : Nat, (0 < k → 2 * lastG gs * b ^ k ≤ d) → Q (.int (k : Int)) H
theorem scSs : FnScope ["self", "way", "bits"] ["self", "way"] (defScope s_Rule_surely_short) := ⟨rfl, rfl, rfl, by decide +kernel, rfl, by decide +kernel, by decide +kernel⟩
theorem ok_ss {f C : Addr} {fd : FuncData} (F : Fun K "_surely_short" "Rule._surely_short" s_Rule_surely_short f fd) (T : Txt K mg C) : FnOk P w K mg base CX0 1 f fd ["self", "way"] (spSs C) := by
  refine F.ok scSs (fun vs H Q E h => ?_) (fun cdv A outer s H vs Q E hr h => ?_)
  · obtain ⟨p, g, t, o, gs, b, d, rfl, _⟩ := h
    rfl
  · obtain ⟨p, g, t, o, gs, b, d, rfl, R, hd0, k⟩ := h
    have hl := R.okT.1
    have hb0 := R.okT.2.1
    have hb1 := R.okT.2.2
    have hg := gap_bd R.okG (k := gs.length - 1) (by omega)
    have hg : 1 ≤ lastG gs ∧ lastG gs ≤ 1000000000000 := hg
    refine ⟨_, (pss_cons (ps_set (i := 2) scSs.nd rfl (Or.inl rfl) (pe_op op_sub (pe_op op_sub (pe_bits (pv 1)) (pe_bits (pe_ix ix_list (pe_fld (pv 0) rfl) (pe_un un_neg pe_int) (fun _ _ => rfl)))) pe_int)) (pss_one (ps_ret (pe_callB (call_max2 rfl) (by rfl) T.max (by decide +kernel) (pa_cons pe_int (pa_cons (pe_op op_fdiv (pv 2) (pe_bits (pe_op op_sub (pe_ix ix_tup (pe_fld (pv 0) rfl) pe_int (fun _ _ => rfl)) pe_int))) pa_nil)))))), ?_⟩
    refine ⟨_, rfl, d, rfl, ?_⟩
    refine rdLast T R rfl hl ⟨_, rfl, _, _, rfl, rfl, _, _, rfl, rfl, ?_⟩
    refine ⟨_, rfl, ?_⟩
    refine rdB T R rfl ⟨_, _, rfl, rfl, _, rfl, ?_⟩
    obtain ⟨c, hc⟩ := Int.eq_ofNat_of_zero_le (show 0 ≤ b - 1 by omega)
    obtain ⟨j, ej, hj1, _⟩ := bits_nat (n := c) (by omega)
    have hj : 2 ^ j < 2 ^ 10 := by omega
    have hj2 := (Nat.pow_lt_pow_iff_right (a := 2) (by decide)).mp hj
    have hcb : ((Builtin.Int.intBits (b - 1) : Nat) : Int) = ((j + 1 : Nat) : Int) := by rw [hc, ej]
    refine ⟨_, _, rfl, rfl, ⟨by omega, by omega⟩, _, _, rfl, ?_⟩
    split
    · rename_i hp
      obtain ⟨n, hn⟩ := Int.eq_ofNat_of_zero_le (Int.le_of_lt hp)
      rw [hn]
      exact k n fun _ => short_ok hg.1 hb0 hd0 (by rw [← hn]; exact Int.le_refl _)
    · exact k 0 fun h => absurd h (Nat.lt_irrefl _)
/-! ### _first_growing -/
def spFg (C : Addr) : Sp := fun vs H Q _ => ∃ (p g t o : Addr) (gs : List Int) (b d : Int), vs = [.ref p, .int d] ∧ RuleAt C H p g t o gs (.times b) ∧ pre gs gs.length < d ∧ d ≤ off gs (.times b) 1000 ∧ ∀ r H', Same H H' → FF gs (.times b) d r → Q r H'
theorem scFg : FnScope ["self", "distance", "attempt", "offset", "gap"] ["self", "distance"] (defScope s_Rule_first_growing) := ⟨rfl, rfl, rfl, by decide +kernel, rfl, by decide +kernel, by decide +kernel⟩
theorem rdTb {tr : TE} {C p g t o : Addr} {gs : List Int} {H : Hp} {σ : L2.St} {i : Nat} {b : Int} {sp : Sp} {dvs : List V} {E : XK} {Q : VK} (T : Txt K mg C) (R : RuleAt C H p g t o gs (.times b)) (hi : σ[i]? = some (some (.ref p))) (q : tr σ H fun y H2 => sp ([.int b, y] ++ dvs) H2 Q E) :
    tCall sp dvs E (tCons (tOp (rIxT K) (tFld K (tVar i) "_tail") (tC (.int 1))) (tCons tr tNil)) σ H Q := by
  dsimp only [tCall, tCons]
  exact rdB T R hi q
theorem ok_fg {f C fS fO fW : Addr} {fd fdS fdO fdW : FuncData} (F : Fun K "_first_growing" "Rule._first_growing" s_Rule_first_growing f fd) (T : Txt K mg C) (FS : Fun K "_surely_short" "Rule._surely_short" s_Rule_surely_short fS fdS) (bS : Binds K fdS ["self", "way"] []) (mS : Meth K C "_surely_short" fS)
    (GO : FnOk P w K mg base CX0 3 fO fdO ["self", "attempt"] (spOff C)) (bO : Binds K fdO ["self", "attempt"] []) (mO : Meth K C "_offset_of" fO) (FW : Fun K "_power" "_power" s_power fW fdW) (bW : Binds K fdW ["base", "exponent"] []) (mW : mg "_power" = some (.ref fW)) : FnOk P w K mg base CX0 4 f fd ["self", "distance"] (spFg C) := by
  have GS : FnOk P w K mg base CX0 1 fS fdS ["self", "way"] (spSs C) := ok_ss FS T
  have GW : FnOk P w K mg base CX0 1 fW fdW ["base", "exponent"] spPower := ok_power FW
  refine F.ok scFg (fun vs H Q E h => ?_) (fun cdv A outer s H vs Q E hr h => ?_)
  · obtain ⟨p, g, t, o, gs, b, d, rfl, _⟩ := h
    rfl
  · obtain ⟨p, g, t, o, gs, b, d, rfl, R, hd0, hd1, k⟩ := h
    have hr1 := hr.mono (show 1 ≤ 3 by decide)
    have hl := R.okT.1
    have hb0 := R.okT.2.1
    have hb1 := R.okT.2.2
    have hlen : gs.length ≤ 20 := R.okG.1
    refine ⟨_, (pss_cons (ps_set (i := 2) scFg.nd rfl (Or.inl rfl) (pe_op op_add (pe_callB call_len_seq (by rfl) T.len (by decide +kernel) (pa_cons (pe_fld (pv 0) rfl) pa_nil)) (pe_meth (pv 0) T.cl mS GS hr1 bS .nil pass0 (pa_cons (pe_op op_sub (pv 1) (pe_ix ix_list (pe_fld (pv 0) rfl) (pe_un un_neg pe_int) (fun _ _ => rfl))) pa_nil)))) (pss_cons (ps_set (i := 3) scFg.nd rfl (Or.inl rfl) (pe_meth (pv 0) T.cl mO GO hr bO .nil pass0 (pa_cons (pv 2) pa_nil))) (pss_cons (ps_set (i := 4) scFg.nd rfl (Or.inl rfl) (pe_op op_mulW (pe_ix ix_list (pe_fld (pv 0) rfl) (pe_un un_neg pe_int) (fun _ _ => rfl)) (pe_call GW hr1 rfl mW FW.kp bW .nil pass0 (pa_cons (pe_ix ix_tup (pe_fld (pv 0) rfl) pe_int (fun _ _ => rfl)) (pa_cons (pe_op op_sub (pv 2) (pe_callB call_len_seq (by rfl) T.len (by decide +kernel) (pa_cons (pe_fld (pv 0) rfl) pa_nil))) pa_nil))))) (pss_cons (ps_while PassesOwn.never (pt_cmpR op_lt (pv 3) (pv 1) (nomark _)) (pss_cons (ps_set (i := 4) scFg.nd rfl (Or.inl rfl) (pe_op op_mul (pv 4) (pe_ix ix_tup (pe_fld (pv 0) rfl) pe_int (fun _ _ => rfl)))) (pss_cons (ps_set (i := 3) scFg.nd rfl (Or.inl rfl) (pe_op op_add (pv 3) (pv 4))) (pss_one (ps_set (i := 2) scFg.nd rfl (Or.inl rfl) (pe_op op_add (pv 2) pe_int)))))) (pss_one (ps_ret (pv 2))))))), ?_⟩
    obtain ⟨dx, hob⟩ := R.ob
    refine rdG T R rfl ⟨g, _, rfl, .inl (SqL.of R.hg), ?_⟩
    rw [List.length_map]
    refine ⟨_, rfl, p, dx, _, rfl, hob, flds_no _ _ _ (by decide +kernel) (by decide +kernel) (by decide +kernel), _, rfl, ?_⟩
    refine rdLastO T R rfl ⟨_, _, rfl, rfl, p, g, t, o, gs, b, _, rfl, R, by omega, fun k0 hk0 => ?_⟩
    refine ⟨_, _, rfl, rfl, ?_⟩
    have ok0 : gs.length + k0 ≤ 1000 ∧ (0 < k0 → off gs (.times b) (gs.length + k0) < d) := by
      by_cases hz : 0 < k0
      · have h1 := hk0 hz
        have h2 := geo_short hb0 k0
        have hg := gap_bd R.okG (k := gs.length - 1) (by omega)
        have hg : 1 ≤ lastG gs ∧ lastG gs ≤ 1000000000000 := hg
        have h3 : lastG gs * (b * geo b k0) < lastG gs * (2 * b ^ k0) := Int.mul_lt_mul_of_pos_left h2 (by omega)
        have h4 : lastG gs * (2 * b ^ k0) = 2 * lastG gs * b ^ k0 := by rw [Int.mul_comm 2 (lastG gs), Int.mul_assoc]
        have h5 : off gs (.times b) (gs.length + k0) < d := by
          rw [off_times hb0 (Nat.le_add_right _ _), Nat.add_sub_cancel_left, Int.mul_assoc]
          omega
        refine ⟨?_, fun _ => h5⟩
        by_cases hn : gs.length + k0 ≤ 1000
        · exact hn
        · have := off_lt R.okG R.okT (i := 1000) (j := gs.length + k0) (by omega) (fun e => nomatch e)
          omega
      · exact ⟨by omega, fun h => absurd h hz⟩
    dsimp only [gName]
    rw [← Int.natCast_add]
    refine ⟨_, rfl, p, dx, _, rfl, hob, flds_no _ _ _ (by decide +kernel) (by decide +kernel) (by decide +kernel), _, rfl, p, g, t, o, gs, .times b, gs.length + k0, rfl, R, ok0.1, fun H1 S1 => ?_⟩
    have R1 := R.mono S1
    dsimp only [tSeq, tAsg, tOp]
    refine rdLast T R1 rfl hl ?_
    refine rdTb T R1 rfl ⟨_, rfl, ?_⟩
    refine rdG T R1 rfl ⟨g, _, rfl, .inl (SqL.of R1.hg), _, _, rfl, rfl, ?_⟩
    refine ⟨b, k0, ?_, by omega, by omega, by omega, _, _, rfl, rfl, ?_, ?_⟩
    · rw [List.length_map]
      show [V.int b, V.int (((gs.length + k0 : Nat) : Int) - (gs.length : Int))] = _
      rw [show ((gs.length + k0 : Nat) : Int) - (gs.length : Int) = (k0 : Int) by omega]
    · have hg := gap_bd R.okG (k := gs.length - 1) (by omega)
      have hg : 1 ≤ lastG gs ∧ lastG gs ≤ 1000000000000 := hg
      exact wide_mul (a := 64) (b := 20481) (by omega) (pow_small (by omega) (by omega) (by omega)) (by decide) (by decide) (by decide)
    generalize hn0' : gs.length + k0 = n0 at ok0 ⊢
    have hn0 : gs.length ≤ n0 := by omega
    have ek : k0 = n0 - gs.length := by omega
    subst ek
    refine ⟨fun m σ H' => H' = H1 ∧ ∃ n : Nat, gs.length ≤ n ∧ n ≤ 1000 ∧ m = 1000 - n ∧ σ = [some (.ref p), some (.int d), some (.int (n : Int)), some (.int (off gs (.times b) n)), some (.int (lastG gs * b ^ (n - gs.length)))] ∧ (n0 < n → off gs (.times b) (n - 1) < d) ∧ n0 ≤ n, ⟨1000 - n0, rfl, n0, hn0, ok0.1, rfl, rfl, fun h => absurd h (Nat.lt_irrefl _), Nat.le_refl _⟩, ?_⟩
    rintro m σ H' ⟨rfl, n, hn0, hn1, rfl, rfl, hall, hnn⟩
    refine ⟨_, rfl, _, rfl, _, _, rfl, rfl, _, rfl, ?_⟩
    by_cases hlt : off gs (.times b) n < d
    · refine iteTb (decide_eq_true hlt) ?_
      have hne : n ≠ 1000 := fun e => by subst e; omega
      have eg : lastG gs * b ^ (n - gs.length) * b = lastG gs * b ^ (n + 1 - gs.length) := by
        rw [show n + 1 - gs.length = (n - gs.length) + 1 by omega, Int.pow_succ, Int.mul_assoc]
      have eo : off gs (.times b) n + lastG gs * b ^ (n + 1 - gs.length) = off gs (.times b) (n + 1) := by
        rw [off_succ R.okT (n := n) (fun e => nomatch e), gap_times hn0, show n + 1 - gs.length = (n - gs.length) + 1 by omega]
      refine ⟨fun σ' H2 => H2 = H' ∧ σ' = [some (.ref p), some (.int d), some (.int ((n : Int) + 1)), some (.int (off gs (.times b) (n + 1))), some (.int (lastG gs * b ^ (n + 1 - gs.length)))], ?_, ?_⟩
      · rintro σ' H2 ⟨rfl, rfl⟩
        exact ⟨1000 - (n + 1), by omega, rfl, n + 1, by omega, by omega, rfl, rfl, fun _ => hlt, by omega⟩
      · refine ⟨_, rfl, ?_⟩
        refine rdB T R1 rfl ⟨_, _, rfl, rfl, .inr ⟨by omega, by omega⟩, ?_⟩
        refine ⟨_, rfl, _, rfl, _, _, rfl, rfl, _, rfl, _, _, rfl, rfl, rfl, ?_⟩
        show [some (V.ref p), some (V.int d), some (V.int ((n : Int) + 1)), some (V.int (off gs (.times b) n + lastG gs * b ^ (n - gs.length) * b)), some (V.int (lastG gs * b ^ (n - gs.length) * b))] = _
        rw [eg, eo]
    · refine iteFb (decide_eq_false hlt) ?_
      have hne : gs.length ≠ n := fun e => by
        subst e
        rw [off_low (Nat.le_refl gs.length)] at hlt
        exact hlt hd0
      refine ⟨_, rfl, k _ _ S1 (.inr ⟨n, rfl, hn1, by omega, fun _ => ?_⟩)⟩
      by_cases h2 : n0 < n
      · exact hall h2
      · have e3 : n = n0 := by omega
        subst e3
        exact absurd (ok0.2 (by omega)) hlt
theorem rdOc {C p g t o : Addr} {gs : List Int} {tl : Tl} {H : Hp} {σ : L2.St} {i : Nat} {sp : Sp} {dvs : List V} {E : XK} {tr : TA} {Q : VK} (T : Txt K mg C) (R : RuleAt C H p g t o gs tl) (hi : σ[i]? = some (some (.ref p))) (q : tr σ H fun xs H2 => sp ((.ref o :: xs) ++ dvs) H2 Q E) :
    tCall sp dvs E (tCons (tFld K (tVar i) "_offsets") tr) σ H Q := by
  dsimp only [tCall, tCons]
  exact rdO T R hi q
/-! ### _first_repeated -/
def spFrp (C : Addr) : Sp := fun vs H Q _ => ∃ (p g t o : Addr) (gs : List Int) (m : Nat) (d : Int), vs = [.ref p, .int d] ∧ RuleAt C H p g t o gs (.rep m) ∧ pre gs gs.length < d ∧ d < 2 ^ 200 ∧ ∀ r H', Same H H' → FF gs (.rep m) d r → Q r H'
theorem scFrp : FnScope ["self", "distance", "first", "periods", "rest", "within"] ["self", "distance"] (defScope s_Rule_first_repeated) := ⟨rfl, rfl, rfl, by decide +kernel, rfl, by decide +kernel, by decide +kernel⟩
theorem offsD {gs : List Int} {j : Nat} (h : j ≤ gs.length) : (offs gs).getD j 0 = pre gs j := by
  rw [List.getD_eq_getElem?_getD, offs_get gs h]
  rfl
theorem bits_lt {i : Int} (h0 : 0 ≤ i) (h1 : i < 2 ^ 200) : Builtin.Int.intBits i ≤ 200 := by
  unfold Builtin.Int.intBits
  split
  · omega
  · have := PySem.Flt.log2_lt_of (n := i.natAbs) (k := 200) (by decide) (by omega)
    omega
theorem ok_frp {f C fR fP fL : Addr} {fd fdR fdP fdL : FuncData} (F : Fun K "_first_repeated" "Rule._first_repeated" s_Rule_first_repeated f fd) (T : Txt K mg C) (FR : Fun K "first_repeating" "Rule.first_repeating" s_Rule_first_repeating fR fdR) (bR : Binds K fdR ["self"] []) (mR : Meth K C "first_repeating" fR)
    (FP : Fun K "period" "Rule.period" s_Rule_period fP fdP) (bP : Binds K fdP ["self"] []) (mP : Meth K C "period" fP) (FL : Fun K "_first_at_least" "_first_at_least" s_first_at_least fL fdL) (bL : Binds K fdL ["offsets", "distance"] []) (mL : mg "_first_at_least" = some (.ref fL)) :
    FnOk P w K mg base CX0 3 f fd ["self", "distance"] (spFrp C) := by
  have GR : FnOk P w K mg base CX0 1 fR fdR ["self"] (spFR C) := ok_fr FR T
  have GP : FnOk P w K mg base CX0 2 fP fdP ["self"] (spPer C) := ok_per FP T FR bR mR
  have GL : FnOk P w K mg base CX0 1 fL fdL ["offsets", "distance"] spFal := ok_fal FL
  refine F.ok scFrp (fun vs H Q E h => ?_) (fun cdv A outer s H vs Q E hr h => ?_)
  · obtain ⟨p, g, t, o, gs, m, d, rfl, _⟩ := h
    rfl
  · obtain ⟨p, g, t, o, gs, m, d, rfl, R, hd0, hd1, k⟩ := h
    have hr1 := hr.mono (show 1 ≤ 2 by decide)
    have hm0 : 1 ≤ m := R.okT.1
    have hm1 : m ≤ gs.length := R.okT.2
    have hp := per_bd R.okG hm0 hm1
    have hpre := pre_le R.okG (gs.length - m) (by omega)
    have eper : per gs m = pre gs gs.length - pre gs (gs.length - m) := rfl
    refine ⟨_, (pss_cons (ps_set (i := 2) scFrp.nd rfl (Or.inl rfl) (pe_meth0 (pv 0) T.cl mR GR hr1 bR .nil pass0)) (pss_cons (ps_asg (pe_callB call_divmodW (by rfl) T.divmod (by decide +kernel) (pa_cons (pe_op op_sub (pv 1) (pe_ix ix_list (pe_fld (pv 0) rfl) (pv 2) (fun _ _ => rfl))) (pa_cons (pe_meth0 (pv 0) T.cl mP GP hr bP .nil pass0) pa_nil))) (pg_tup rfl (pgs_cons (pg_name (i := 3) scFrp.nd rfl (Or.inl rfl)) (pgs_cons (pg_name (i := 4) scFrp.nd rfl (Or.inl rfl)) pgs_nil)))) (pss_cons (ps_set (i := 5) scFrp.nd rfl (Or.inl rfl) (pe_call GL hr1 rfl mL FL.kp bL .nil pass0 (pa_cons (pe_fld (pv 0) rfl) (pa_cons (pe_op op_add (pe_ix ix_list (pe_fld (pv 0) rfl) (pv 2) (fun _ _ => rfl)) (pv 4)) pa_nil)))) (pss_one (ps_ret (pe_op op_add (pv 5) (pe_op op_mul (pv 3) (pe_ix ix_tup (pe_fld (pv 0) rfl) pe_int (fun _ _ => rfl))))))))), ?_⟩
    obtain ⟨dx, hob⟩ := R.ob
    have nF : (flds g t o).lookup ("first_repeating" : Str) = none := flds_no _ _ _ (by decide +kernel) (by decide +kernel) (by decide +kernel)
    have nP : (flds g t o).lookup ("period" : Str) = none := flds_no _ _ _ (by decide +kernel) (by decide +kernel) (by decide +kernel)
    refine ⟨_, rfl, p, dx, _, rfl, hob, nF, p, g, t, o, gs, m, rfl, R, ?_⟩
    refine ⟨_, rfl, ?_⟩
    refine rdOx T R rfl ⟨_, rfl, o, _, _, _, rfl, rfl, SqL.of R.ho, at_map (offs_get gs (by omega)), _, _, rfl, rfl, ?_⟩
    refine ⟨_, rfl, p, dx, _, rfl, hob, nP, p, g, t, o, gs, .rep m, rfl, R, ?_⟩
    have hi0 : 0 ≤ d - pre gs (gs.length - m) := by omega
    refine ⟨_, _, rfl, divp_ok (by omega) (Nat.le_trans (bits_lt hi0 (by omega)) (by omega)), fun q hq => ?_⟩
    generalize hQ : (d - pre gs (gs.length - m)) / per gs m = qq
    generalize hRr : (d - pre gs (gs.length - m)) % per gs m = rr
    have eqr : per gs m * qq + rr = d - pre gs (gs.length - m) := by rw [← hQ, ← hRr]; exact Int.mul_ediv_add_emod _ _
    have hr0 : 0 ≤ rr := by rw [← hRr]; exact Int.emod_nonneg _ (by omega)
    have hr2 : rr < per gs m := by rw [← hRr]; exact Int.emod_lt_of_pos _ (by omega)
    have hq1 : 1 ≤ qq := by
      by_cases h : 1 ≤ qq
      · exact h
      · have : per gs m * qq ≤ per gs m * 0 := Int.mul_le_mul_of_nonneg_left (by omega) (by omega)
        omega
    obtain ⟨qn, rfl⟩ : ∃ qn : Nat, qq = (qn : Int) := ⟨qq.toNat, by omega⟩
    have S : Same H (upd H q (.tup [.int (qn : Int), .int rr])) := same_new hq
    have R2 := R.mono S
    refine ⟨q, _, rfl, SqT.of upd_same, rfl, _, _, rfl, _, _, rfl, rfl, ?_⟩
    obtain ⟨dx2, hob2⟩ := R2.ob
    refine rdOc T R2 rfl ?_
    refine rdOx T R2 rfl ⟨_, rfl, o, _, _, _, rfl, rfl, SqL.of R2.ho, at_map (offs_get gs (by omega)), _, rfl, _, _, rfl, rfl, ?_⟩
    refine ⟨o, offs gs, _, gs.length, rfl, R2.ho, by rw [offs_len]; omega, by rw [offsD (Nat.le_refl _)]; omega, fun j hj hdj hall => ?_⟩
    rw [offsD hj] at hdj
    have hj0 : gs.length - m ≤ j := by
      by_cases h : gs.length - m ≤ j
      · exact h
      · have := pre_mono R.okG j (gs.length - m - j) (by omega)
        rw [show j + (gs.length - m - j) = gs.length - m by omega] at this
        omega
    refine ⟨_, rfl, _, rfl, ?_⟩
    refine rdN T R2 rfl ⟨_, _, rfl, rfl, .inr ⟨by omega, by have := R.okG.1; omega⟩, _, _, rfl, rfl, ?_⟩
    have emul : (qn : Int) * per gs m = per gs m * (qn : Int) := Int.mul_comm _ _
    refine k _ _ S (.inr ⟨j + m * qn, ?_, True.intro, ?_, fun _ => ?_⟩)
    · rw [Int.natCast_add, Int.natCast_mul, Int.mul_comm (m : Int)]
    · rw [off_turn hm0 hm1 hj0 hj]
      omega
    · by_cases hj1 : j = gs.length - m
      · have e1 : qn = (qn - 1) + 1 := by omega
        have e2 : j + m * qn - 1 = (gs.length - 1) + m * (qn - 1) := by
          rw [e1, Nat.mul_succ]
          simp only [Nat.add_sub_cancel]
          omega
        have hall0 : d = pre gs (gs.length - m) + rr + per gs m * (qn : Int) := by omega
        rw [e2, off_turn hm0 hm1 (by omega) (by omega)]
        have hl := pre_mono R.okG (gs.length - 1) 1 (by omega)
        rw [show gs.length - 1 + 1 = gs.length by omega] at hl
        have e3 : ((qn - 1 : Nat) : Int) * per gs m + per gs m = per gs m * (qn : Int) := by
          rw [show ((qn - 1 : Nat) : Int) = (qn : Int) - 1 by omega, Int.sub_mul, Int.one_mul, emul]
          omega
        omega
      · have h1 := hall (j - 1) (by omega)
        rw [offsD (by omega)] at h1
        rw [show j + m * qn - 1 = (j - 1) + m * qn by omega, off_turn hm0 hm1 (by omega) (by omega)]
        omega
/-! ### first_from, attempt_at -/
/-- a distance that is answered -/
def HD (gs : List Int) (tl : Tl) (d : Int) : Prop := match tl with
  | .fin => True
  | .times b => d ≤ off gs (.times b) 1000
  | .rep _ => d < 2 ^ 200
def spFF (C : Addr) : Sp := fun vs H Q _ => ∃ (p g t o : Addr) (gs : List Int) (tl : Tl) (d : Int), vs = [.ref p, .int d] ∧ RuleAt C H p g t o gs tl ∧ HD gs tl d ∧ ∀ r H', Same H H' → FF gs tl d r → Q r H'
theorem scFF : FnScope ["self", "distance"] ["self", "distance"] (defScope s_Rule_first_from) := ⟨rfl, rfl, rfl, by decide +kernel, rfl, by decide +kernel, by decide +kernel⟩
theorem ok_ff {f C fi fL fG fW : Addr} {fd fdi fdL fdG fdW : FuncData} (F : Fun K "first_from" "Rule.first_from" s_Rule_first_from f fd) (T : Txt K mg C) (FI : Fun K "is_integer" "is_integer" s_is_integer fi fdi) (bI : Binds K fdi ["value"] []) (mI : mg "is_integer" = some (.ref fi))
    (FL : Fun K "_first_at_least" "_first_at_least" s_first_at_least fL fdL) (bL : Binds K fdL ["offsets", "distance"] []) (mL : mg "_first_at_least" = some (.ref fL))
    (GG : FnOk P w K mg base CX0 4 fG fdG ["self", "distance"] (spFg C)) (bG : Binds K fdG ["self", "distance"] []) (mG : Meth K C "_first_growing" fG)
    (GW : FnOk P w K mg base CX0 3 fW fdW ["self", "distance"] (spFrp C)) (bW : Binds K fdW ["self", "distance"] []) (mW : Meth K C "_first_repeated" fW) : FnOk P w K mg base CX0 5 f fd ["self", "distance"] (spFF C) := by
  have GI : FnOk P w K mg base CX0 1 fi fdi ["value"] spIsInt := ok_isInt FI T
  have GL : FnOk P w K mg base CX0 1 fL fdL ["offsets", "distance"] spFal := ok_fal FL
  refine F.ok scFF (fun vs H Q E h => ?_) (fun cdv A outer s H vs Q E hr h => ?_)
  · obtain ⟨p, g, t, o, gs, tl, d, rfl, _⟩ := h
    rfl
  · obtain ⟨p, g, t, o, gs, tl, d, rfl, R, hd, k⟩ := h
    have hr1 := hr.mono (show 1 ≤ 4 by decide)
    refine ⟨_, (pss_cons (ps_if (pt_not (pt_val (pe_call GI hr1 rfl mI FI.kp bI .nil pass0 (pa_cons (pv 1) pa_nil)))) (pss_one ps_never) pss_nil) (pss_cons (ps_if (pt_cmpR op_le (pv 1) (pe_ix ix_list (pe_fld (pv 0) rfl) (pe_un un_neg pe_int) (fun _ _ => rfl)) (nomark _)) (pss_one (ps_ret (pe_call GL hr1 rfl mL FL.kp bL .nil pass0 (pa_cons (pe_fld (pv 0) rfl) (pa_cons (pv 1) pa_nil))))) pss_nil) (pss_cons (ps_if (pt_cmpR op_eq (pe_ix ix_tup (pe_fld (pv 0) rfl) pe_int (fun _ _ => rfl)) pe_str (nomark _)) (pss_one (ps_ret pe_non)) pss_nil) (pss_cons (ps_if (pt_cmpR op_eq (pe_ix ix_tup (pe_fld (pv 0) rfl) pe_int (fun _ _ => rfl)) pe_str (nomark _)) (pss_one (ps_ret (pe_meth (pv 0) T.cl mG GG hr bG .nil pass0 (pa_cons (pv 1) pa_nil)))) pss_nil) (pss_one (ps_ret (pe_meth (pv 0) T.cl mW GW (hr.mono (by decide)) bW .nil pass0 (pa_cons (pv 1) pa_nil)))))))), ?_⟩
    obtain ⟨dx, hob⟩ := R.ob
    refine ⟨_, rfl, d, rfl, true, rfl, iteF ?_⟩
    refine ⟨_, rfl, ?_⟩
    refine rdLastO T R rfl ⟨_, _, rfl, rfl, _, rfl, ?_⟩
    by_cases hle : d ≤ pre gs gs.length
    · refine iteTb (decide_eq_true hle) ?_
      refine rdOc T R rfl ⟨_, rfl, o, offs gs, d, gs.length, rfl, R.ho, by rw [offs_len]; omega, by rw [offsD (Nat.le_refl _)]; exact hle, fun n hn hdn hall => ?_⟩
      rw [offsD hn] at hdn
      refine k _ H (Same.refl H) (.inr ⟨n, rfl, AttOk.low R.okG hn, by rw [off_low hn]; exact hdn, fun h0 => ?_⟩)
      have := hall (n - 1) (by omega)
      rw [offsD (by omega)] at this
      rw [off_low (by omega)]
      exact this
    · refine iteFb (decide_eq_false hle) ?_
      refine rdIs T R rfl ?_
      cases tl with
      | fin =>
        refine iteTb wEE ?_
        exact k _ H (Same.refl H) (.inl ⟨rfl, rfl, by omega⟩)
      | times b =>
        refine iteFb wTE ?_
        refine rdIs T R rfl ?_
        refine iteTb wTT ?_
        exact ⟨_, rfl, p, dx, _, rfl, hob, flds_no _ _ _ (by decide +kernel) (by decide +kernel) (by decide +kernel), _, rfl, p, g, t, o, gs, b, d, rfl, R, by omega, hd, k⟩
      | rep m =>
        refine iteFb wRE ?_
        refine rdIs T R rfl ?_
        refine iteFb wRT ?_
        exact ⟨_, rfl, p, dx, _, rfl, hob, flds_no _ _ _ (by decide +kernel) (by decide +kernel) (by decide +kernel), _, rfl, p, g, t, o, gs, m, d, rfl, R, by omega, hd, k⟩
def spAA (C : Addr) : Sp := fun vs H Q _ => ∃ (p g t o : Addr) (gs : List Int) (tl : Tl) (d : Int), vs = [.ref p, .int d] ∧ RuleAt C H p g t o gs tl ∧ HD gs tl d ∧ ∀ r H', Same H H' → AA gs tl d r → Q r H'
theorem scAA : FnScope ["self", "distance", "attempt"] ["self", "distance"] (defScope s_Rule_attempt_at) := ⟨rfl, rfl, rfl, by decide +kernel, rfl, by decide +kernel, by decide +kernel⟩
theorem ok_aa {f C fF fO : Addr} {fd fdF fdO : FuncData} (F : Fun K "attempt_at" "Rule.attempt_at" s_Rule_attempt_at f fd) (T : Txt K mg C) (GF : FnOk P w K mg base CX0 5 fF fdF ["self", "distance"] (spFF C)) (bF : Binds K fdF ["self", "distance"] []) (mF : Meth K C "first_from" fF)
    (GO : FnOk P w K mg base CX0 3 fO fdO ["self", "attempt"] (spOff C)) (bO : Binds K fdO ["self", "attempt"] []) (mO : Meth K C "_offset_of" fO) : FnOk P w K mg base CX0 6 f fd ["self", "distance"] (spAA C) := by
  refine F.ok scAA (fun vs H Q E h => ?_) (fun cdv A outer s H vs Q E hr h => ?_)
  · obtain ⟨p, g, t, o, gs, tl, d, rfl, _⟩ := h
    rfl
  · obtain ⟨p, g, t, o, gs, tl, d, rfl, R, hd, k⟩ := h
    refine ⟨_, (pss_cons (ps_set (i := 2) scAA.nd rfl (Or.inl rfl) (pe_meth (pv 0) T.cl mF GF hr bF .nil pass0 (pa_cons (pv 1) pa_nil))) (pss_cons (ps_if (PW.pt (pw_or (pt_cmpR op_isN (pv 2) pe_non (nomark _)) (pw_or1 (pt_cmpR op_ne (pe_meth (pv 0) T.cl mO GO (hr.mono (by decide)) bO .nil pass0 (pa_cons (pv 2) pa_nil)) (pv 1) (nomark _))))) (pss_one (ps_ret pe_non)) pss_nil) (pss_one (ps_ret (pv 2))))), ?_⟩
    obtain ⟨dx, hob⟩ := R.ob
    refine ⟨_, rfl, p, dx, _, rfl, hob, flds_no _ _ _ (by decide +kernel) (by decide +kernel) (by decide +kernel), _, rfl, p, g, t, o, gs, tl, d, rfl, R, hd, fun r H1 S1 hf => ?_⟩
    refine ⟨_, rfl, rfl, _, rfl, ?_⟩
    rcases id hf with ⟨rfl, _⟩ | ⟨n, rfl, hn, _⟩
    · refine iteTb (decide_eq_true rfl) ?_
      refine iteT ?_
      exact k _ H1 S1 ⟨_, hf, .inr ⟨(fun n e => nomatch e), rfl⟩⟩
    · refine iteFb (decide_eq_false fun e => nomatch e) ?_
      obtain ⟨dx1, hob1⟩ := (R.mono S1).ob
      refine ⟨_, rfl, p, dx1, _, rfl, hob1, flds_no _ _ _ (by decide +kernel) (by decide +kernel) (by decide +kernel), _, rfl, p, g, t, o, gs, tl, n, rfl, R.mono S1, hn, fun H2 S2 => ?_⟩
      refine ⟨_, rfl, rfl, _, rfl, ?_⟩
      by_cases e : off gs tl n = d
      · refine iteFb (by rw [e]; show (!decide (V.int d = V.int d)) = false; rw [decide_eq_true rfl]; rfl) ?_
        exact ⟨_, rfl, k _ H2 (S1.trans S2) ⟨_, hf, .inl ⟨n, rfl, e, rfl⟩⟩⟩
      · refine iteTb (by show (!decide (V.int _ = V.int d)) = true; rw [decide_eq_false fun z => e (V.int.inj z)]; rfl) ?_
        exact k _ H2 (S1.trans S2) ⟨_, hf, .inr ⟨fun m em => by have := V.int.inj em; rw [← show n = m by omega]; exact e, rfl⟩⟩
end
end RS
namespace RS
open PySem L2
/-! ### the least repetition among as few first attempts as possible -/
abbrev Pr := Int × Int
/-- a pair of attempts below a bound -/
def InL (L : Nat) (p : Pr) : Prop := ∃ i j : Nat, p = ((i : Int), (j : Int)) ∧ i < j ∧ j < L
def dif (os : List Int) (p : Pr) : Int := os.getD p.2.toNat 0 - os.getD p.1.toNat 0
def pLt (p q : Pr) : Prop := p.1 < q.1 ∨ p.1 = q.1 ∧ p.2 < q.2
def qLt (r s : Pr × Pr) : Prop := pLt r.1 s.1 ∨ r.1 = s.1 ∧ pLt r.2 s.2
theorem pLt_tri (p q : Pr) : pLt p q ∨ p = q ∨ pLt q p := by
  unfold pLt
  rcases Int.lt_trichotomy p.1 q.1 with h | h | h
  · exact .inl (.inl h)
  · rcases Int.lt_trichotomy p.2 q.2 with h2 | h2 | h2
    · exact .inl (.inr ⟨h, h2⟩)
    · exact .inr (.inl (Prod.ext h h2))
    · exact .inr (.inr (.inr ⟨h.symm, h2⟩))
  · exact .inr (.inr (.inl h))
theorem pLt_irr (p : Pr) : ¬ pLt p p := by unfold pLt; omega
theorem pLt_asym {p q : Pr} (h : pLt p q) : ¬ pLt q p := by unfold pLt at *; omega
theorem pLt_trans {p q r : Pr} (h : pLt p q) (h2 : pLt q r) : pLt p r := by unfold pLt at *; omega
theorem qLt_tri (r s : Pr × Pr) : qLt r s ∨ r = s ∨ qLt s r := by
  unfold qLt
  rcases pLt_tri r.1 s.1 with h | h | h
  · exact .inl (.inl h)
  · rcases pLt_tri r.2 s.2 with h2 | h2 | h2
    · exact .inl (.inr ⟨h, h2⟩)
    · exact .inr (.inl (Prod.ext h h2))
    · exact .inr (.inr (.inr ⟨h.symm, h2⟩))
  · exact .inr (.inr (.inl h))
/-- two pairs below a bound, the lesser first, with the same difference -/
def RepS (os : List Int) (L : Nat) (r : Pr × Pr) : Prop := InL L r.1 ∧ InL L r.2 ∧ pLt r.1 r.2 ∧ dif os r.1 = dif os r.2
/-- the least one, of as few first attempts as have one -/
def LeastR (os : List Int) (r : Option (Pr × Pr)) : Prop := match r with
  | none => ∀ s, ¬ RepS os os.length s
  | some r => ∃ L, L < os.length ∧ (∀ s, ¬ RepS os L s) ∧ RepS os (L + 1) r ∧ ∀ s, RepS os (L + 1) s → ¬ qLt s r
theorem InL.mono {L M : Nat} {p : Pr} (h : InL L p) (hm : L ≤ M) : InL M p := by
  obtain ⟨i, j, e, h1, h2⟩ := h
  exact ⟨i, j, e, h1, by omega⟩
theorem RepS.mono {os : List Int} {L M : Nat} {r : Pr × Pr} (h : RepS os L r) (hm : L ≤ M) : RepS os M r := ⟨h.1.mono hm, h.2.1.mono hm, h.2.2⟩
theorem LeastR.one {os : List Int} {r s : Option (Pr × Pr)} (h : LeastR os r) (h2 : LeastR os s) : r = s := by
  cases r with
  | none =>
    cases s with
    | none => rfl
    | some s =>
      obtain ⟨L, hL, _, h3, _⟩ := h2
      exact absurd (h3.mono (show L + 1 ≤ os.length by omega)) (h s)
  | some r =>
    obtain ⟨L, hL, hn, hr, hl⟩ := h
    cases s with
    | none => exact absurd (hr.mono (show L + 1 ≤ os.length by omega)) (h2 r)
    | some s =>
      obtain ⟨M, hM, hn2, hs, hl2⟩ := h2
      have e : L = M := by
        rcases Nat.lt_trichotomy L M with z | z | z
        · exact absurd (hr.mono (show L + 1 ≤ M by omega)) (hn2 r)
        · exact z
        · exact absurd (hs.mono (show M + 1 ≤ L by omega)) (hn s)
      subst e
      rcases qLt_tri r s with z | z | z
      · exact absurd z (hl2 r hr)
      · rw [z]
      · exact absurd z (hl s hs)
/-- the differences of the pairs below a bound are distinct -/
theorem no_rep {os : List Int} {L : Nat} (h : ∀ s, ¬ RepS os L s) {p q : Pr} (hp : InL L p) (hq : InL L q) (e : dif os p = dif os q) : p = q := by
  rcases pLt_tri p q with z | z | z
  · exact absurd ⟨hp, hq, z, e⟩ (h (p, q))
  · exact z
  · exact absurd ⟨hq, hp, z, e.symm⟩ (h (q, p))
/-- ascending -/
def Asc (os : List Int) : Prop := ∀ i j : Nat, i < j → j < os.length → os.getD i 0 < os.getD j 0
/-- the pairs that end at one attempt -/
theorem last_or {L : Nat} {p : Pr} (h : InL (L + 1) p) : InL L p ∨ ∃ k : Nat, k < L ∧ p = ((k : Int), (L : Int)) := by
  obtain ⟨i, j, e, h1, h2⟩ := h
  by_cases z : j < L
  · exact .inl ⟨i, j, e, h1, z⟩
  · have : j = L := by omega
    subst this
    exact .inr ⟨i, h1, e⟩
theorem last_inj {os : List Int} {L k k' : Nat} (ha : Asc os) (hL : L < os.length) (hk : k < L) (hk' : k' < L) (e : dif os ((k : Int), (L : Int)) = dif os ((k' : Int), (L : Int))) : k = k' := by
  unfold dif at e
  simp only [Int.toNat_natCast] at e
  rcases Nat.lt_trichotomy k k' with z | z | z
  · have := ha k k' z (by omega)
    omega
  · exact z
  · have := ha k' k z (by omega)
    omega
end RS
namespace RS
open PySem L2
/-! ### growing gaps: which attempts tell -/
/-- n first offsets: their last gap is the first of the tail above a limit -/
structure Bey (gs : List Int) (b reach : Int) (n : Nat) : Prop where
  lo : gs.length + 2 ≤ n
  hi : reach < gapf gs (.times b) (n - 2)
  le : ∀ k, gs.length ≤ k → k < n - 2 → gapf gs (.times b) k ≤ reach
def BeyT (gs : List Int) (reach : Int) (n : Nat) : Tl → Prop
  | .times b => Bey gs b reach n
  | _ => n = gs.length + 1
/-- the offset of the attempt before the last listed gap -/
def preS (gs : List Int) : Int := pre gs (gs.length - 1)
def TellN (gs : List Int) (n : Nat) : Tl → Prop
  | .fin => n = gs.length + 1
  | .rep _ => n = gs.length + 2
  | .times b => Bey gs b (preS gs) n
section
variable {gs : List Int} {b : Int} (okG : GapsOk gs) (okT : TlOk gs.length (.times b))
include okG okT
theorem last_bd : 1 ≤ lastG gs ∧ lastG gs ≤ 1000000000000 := gap_bd okG (k := gs.length - 1) (by have := okT.1; omega)
theorem pow_two_le (k : Nat) : (2 : Int) ^ k ≤ b ^ k := by
  have h2 := okT.2.1
  induction k with
  | zero => rw [Int.pow_zero, Int.pow_zero]; exact Int.le_refl _
  | succ k ih =>
    rw [Int.pow_succ, Int.pow_succ]
    have p : (0 : Int) < 2 ^ k := Int.pow_pos (by decide)
    exact Int.mul_le_mul ih h2 (by decide) (by omega)
theorem gap_two (k : Nat) (h : gs.length ≤ k) : (2 : Int) ^ (k - gs.length + 1) ≤ gapf gs (.times b) k := by
  rw [gap_times h]
  have h1 := (last_bd okG okT).1
  have h2 := pow_two_le okG okT (k - gs.length + 1)
  have p : (0 : Int) < 2 ^ (k - gs.length + 1) := Int.pow_pos (by decide)
  have := Int.mul_le_mul h1 h2 (by omega) (by omega)
  omega
theorem gap_next {k : Nat} (h : gs.length ≤ k) : gapf gs (.times b) (k + 1) = gapf gs (.times b) k * b := gap_grow okT.1 (by omega)
theorem gap_le : ∀ (k i : Nat), gs.length ≤ k → gapf gs (.times b) k ≤ gapf gs (.times b) (k + i)
  | _, 0, _ => Int.le_refl _
  | k, i + 1, h => by
    have ih := gap_le k i h
    have hp := gap_pos okG okT (n := k + i) (fun z => nomatch z)
    rw [show k + (i + 1) = k + i + 1 by omega, gap_next okG okT (by omega)]
    have := Int.mul_le_mul_of_nonneg_left (show (1 : Int) ≤ b by have := okT.2.1; omega) (show 0 ≤ gapf gs (.times b) (k + i) by omega)
    omega
theorem Bey.bd {reach : Int} {n R : Nat} (B : Bey gs b reach n) (hR : reach < 2 ^ R) (h1 : 1 ≤ R) : n ≤ gs.length + R + 1 := by
  by_cases h : n ≤ gs.length + 2
  · omega
  · have h2 := B.le (n - 3) (by omega) (by omega)
    have h3 := gap_two okG okT (n - 3) (by omega)
    have h4 : (2 : Int) ^ (n - 3 - gs.length + 1) < 2 ^ R := by omega
    have h5 : 2 ^ (n - 3 - gs.length + 1) < 2 ^ R := by exact_mod_cast h4
    have := (Nat.pow_lt_pow_iff_right (a := 2) (by decide)).mp h5
    omega
/-- a later attempt lies farther away than the limit -/
theorem Bey.far {reach : Int} {n : Nat} (B : Bey gs b reach n) {i j : Nat} (hi : n ≤ i) (hj : j < i) : reach < off gs (.times b) i - off gs (.times b) j := by
  have h1 := off_succ okT (n := i - 1) (fun z => nomatch z)
  rw [show i - 1 + 1 = i by have := B.lo; omega] at h1
  have h2 := gap_le okG okT (n - 2) (i - 1 - (n - 2)) (by have := B.lo; omega)
  rw [show n - 2 + (i - 1 - (n - 2)) = i - 1 by have := B.lo; omega] at h2
  have h3 := B.hi
  have h4 : off gs (.times b) j ≤ off gs (.times b) (i - 1) := by
    by_cases e : j = i - 1
    · rw [e]; exact Int.le_refl _
    · exact Int.le_of_lt (off_lt okG okT (by omega) (fun z => nomatch z))
  omega
theorem pre_last : pre gs gs.length = preS gs + lastG gs := by
  have h := okT.1
  have := pre_succD (gs := gs) (k := gs.length - 1) (by omega)
  rw [show gs.length - 1 + 1 = gs.length by omega] at this
  exact this
/-- (b - 1) times the way from the offset before the last listed gap is the next gap less the last listed one -/
theorem key_off {k : Nat} (h : gs.length ≤ k) : (b - 1) * (off gs (.times b) k - preS gs) = gapf gs (.times b) k - lastG gs := by
  have h2 := okT.2.1
  rw [off_times h2 h, gap_times h, pre_last okG okT, show preS gs + lastG gs + lastG gs * b * geo b (k - gs.length) - preS gs = lastG gs + lastG gs * b * geo b (k - gs.length) by omega, Int.mul_add]
  have e : (b - 1) * (lastG gs * b * geo b (k - gs.length)) = lastG gs * b * ((b - 1) * geo b (k - gs.length)) := by
    rw [← Int.mul_assoc, Int.mul_comm (b - 1), Int.mul_assoc]
  rw [e, ← geo_eq, Int.mul_sub, Int.mul_one, Int.pow_succ, Int.mul_assoc (lastG gs) b, Int.mul_comm b (b ^ (k - gs.length)), Int.sub_mul, Int.one_mul, Int.mul_comm b (lastG gs)]
  omega
/-- a pair that ends late has a difference that another one has: just by doubled gaps -/
theorem tell_late {n : Nat} (B : Bey gs b (preS gs) n) {i j p q : Nat} (hij : i < j) (hpq : p < q) (hq : q ≤ j) (hj : n ≤ j) (hne : ¬ (i = p ∧ j = q))
    (e : off gs (.times b) j - off gs (.times b) i = off gs (.times b) q - off gs (.times b) p) : b = 2 ∧ i = j - 1 ∧ q = j - 1 ∧ off gs (.times b) p = preS gs - lastG gs := by
  have hb := okT.2.1
  have hlo := B.lo
  have hl := okT.1
  have hg1 := (last_bd okG okT).1
  have lt : ∀ {x y : Nat}, x < y → off gs (.times b) x < off gs (.times b) y := fun h => off_lt okG okT h (fun z => nomatch z)
  have le : ∀ {x y : Nat}, x ≤ y → off gs (.times b) x ≤ off gs (.times b) y := fun {x y} h => by
    rcases Nat.lt_or_eq_of_le h with z | z
    · exact Int.le_of_lt (lt z)
    · rw [z]; exact Int.le_refl _
  have hqj : q < j := by
    rcases Nat.lt_or_eq_of_le hq with z | z
    · exact z
    · subst z
      have e2 : off gs (.times b) i = off gs (.times b) p := by omega
      rcases Nat.lt_trichotomy i p with z | z | z
      · have := lt z; omega
      · exact absurd ⟨z, rfl⟩ hne
      · have := lt z; omega
  have s1 := off_succ okT (n := j - 1) (fun z => nomatch z)
  have s2 := off_succ okT (n := j - 2) (fun z => nomatch z)
  rw [show j - 1 + 1 = j by omega] at s1
  rw [show j - 2 + 1 = j - 1 by omega] at s2
  have g1 := gap_next okG okT (k := j - 2) (by omega)
  rw [show j - 2 + 1 = j - 1 by omega] at g1
  have K := key_off okG okT (k := j - 2) (by omega)
  have hx := gap_le okG okT (n - 2) (j - n) (by omega)
  rw [show n - 2 + (j - n) = j - 2 by omega] at hx
  have hx1 := B.hi
  have p0 : 0 ≤ off gs (.times b) p := by
    have := le (Nat.zero_le p)
    rw [off_low (Nat.zero_le _)] at this
    exact this
  have hys : preS gs ≤ off gs (.times b) (j - 2) := by
    have := le (show gs.length - 1 ≤ j - 2 by omega)
    rwa [off_low (by omega)] at this
  have hi1 := le (show i ≤ j - 1 by omega)
  have hq1 := le (show q ≤ j - 1 by omega)
  have b2 : b = 2 := by
    rcases Int.lt_or_le 2 b with z | z
    · exfalso
      have m1 := Int.mul_le_mul_of_nonneg_right (show 2 ≤ b - 1 by omega) (show 0 ≤ off gs (.times b) (j - 2) - preS gs by omega)
      have m2 := Int.mul_le_mul_of_nonneg_left (show 3 ≤ b by omega) (show 0 ≤ gapf gs (.times b) (j - 2) by have := gap_pos okG okT (n := j - 2) (fun z => nomatch z); omega)
      omega
    · omega
  subst b2
  refine ⟨rfl, ?_⟩
  have hi2 : i = j - 1 := by
    rcases Nat.lt_or_ge i (j - 1) with z | z
    · exfalso
      have := le (show i ≤ j - 2 by omega)
      omega
    · omega
  subst hi2
  have hq2 : q = j - 1 := by
    rcases Nat.lt_or_ge q (j - 1) with z | z
    · exfalso
      have := le (show q ≤ j - 2 by omega)
      omega
    · omega
  subst hq2
  exact ⟨rfl, rfl, by omega⟩
/-- then every later attempt does it, the first behind the listed ones too -/
theorem tell_all (hb : b = 2) {p j : Nat} (hp : off gs (.times b) p = preS gs - lastG gs) (hj : gs.length + 1 ≤ j) : off gs (.times b) (j - 1) - off gs (.times b) p = off gs (.times b) j - off gs (.times b) (j - 1) := by
  have s1 := off_succ okT (n := j - 1) (fun z => nomatch z)
  rw [show j - 1 + 1 = j by omega] at s1
  have K := key_off okG okT (k := j - 1) (by omega)
  subst hb
  omega
theorem tell_low {p : Nat} (hp : off gs (.times b) p = preS gs - lastG gs) : p < gs.length - 1 := by
  have hg1 := (last_bd okG okT).1
  have hl := okT.1
  rcases Nat.lt_or_ge p (gs.length - 1) with z | z
  · exact z
  · have := off_mono okG okT (gs.length - 1) (p - (gs.length - 1)) (fun z => nomatch z)
    rw [show gs.length - 1 + (p - (gs.length - 1)) = p by omega, off_low (n := gs.length - 1) (by omega)] at this
    have h3 : pre gs (gs.length - 1) = preS gs := rfl
    omega
end
/-- ascending, of any rule -/
theorem asc_any {gs : List Int} {tl : Tl} (okG : GapsOk gs) (okT : TlOk gs.length tl) {n : Nat} (h : tl = .fin → n ≤ gs.length + 1) : Asc (offL gs tl n) := fun i j h1 h2 => by
  rw [offL_len] at h2
  have e : ∀ k, k < n → (offL gs tl n).getD k 0 = off gs tl k := fun k hk => by rw [List.getD_eq_getElem?_getD, offL_get gs tl hk]; rfl
  rw [e i (by omega), e j h2]
  exact off_lt okG okT h1 (fun z => by have := h z; omega)
theorem offL_getD (gs : List Int) (tl : Tl) {n k : Nat} (hk : k < n) : (offL gs tl n).getD k 0 = off gs tl k := by rw [List.getD_eq_getElem?_getD, offL_get gs tl hk]; rfl
theorem pre_bd {gs : List Int} (okG : GapsOk gs) (k : Nat) (h : k ≤ gs.length) : 0 ≤ pre gs k ∧ pre gs k < 2 ^ 45 := by
  have h1 := pre_le okG k h
  have h2 := okG.1
  have : (2 : Int) ^ 45 = 35184372088832 := by decide
  omega
/-- of as few first attempts as possible: the attempts that tell are enough -/
theorem tell_least {gs : List Int} {b : Int} (okG : GapsOk gs) (okT : TlOk gs.length (.times b)) {n M : Nat} (B : Bey gs b (preS gs) n) (hM : n ≤ M) {r : Option (Pr × Pr)} (h : LeastR (offL gs (.times b) n) r) : LeastR (offL gs (.times b) M) r := by
  have hlo := B.lo
  have rs : ∀ {L : Nat} {s : Pr × Pr}, L ≤ n → (RepS (offL gs (.times b) n) L s ↔ RepS (offL gs (.times b) M) L s) := fun {L s} hL => by
    have dd : ∀ {p : Pr}, InL L p → dif (offL gs (.times b) n) p = dif (offL gs (.times b) M) p := fun {p} hp => by
      obtain ⟨i, j, rfl, h1, h2⟩ := hp
      unfold dif
      simp only [Int.toNat_natCast]
      rw [offL_getD _ _ (by omega), offL_getD _ _ (by omega), offL_getD _ _ (by omega), offL_getD _ _ (by omega)]
    constructor
    · rintro ⟨h1, h2, h3, h4⟩
      exact ⟨h1, h2, h3, by rw [← dd h1, ← dd h2]; exact h4⟩
    · rintro ⟨h1, h2, h3, h4⟩
      exact ⟨h1, h2, h3, by rw [dd h1, dd h2]; exact h4⟩
  cases r with
  | some s =>
    obtain ⟨L, hL, h1, h2, h3⟩ := h
    rw [offL_len] at hL
    exact ⟨L, by rw [offL_len]; omega, fun s hs => h1 s ((rs (by omega)).mpr hs), (rs (by omega)).mp h2, fun s hs => h3 s ((rs (by omega)).mpr hs)⟩
  | none =>
    intro s hs
    rw [offL_len] at hs
    have h : ∀ s, ¬ RepS (offL gs (.times b) n) (offL gs (.times b) n).length s := h
    rw [offL_len] at h
    -- two pairs, one of which ends late
    have key : ∀ {i j p q : Nat}, i < j → p < q → q ≤ j → j < M → ¬ (i = p ∧ j = q) → off gs (.times b) j - off gs (.times b) i = off gs (.times b) q - off gs (.times b) p → n ≤ j → False := by
      intro i j p q h1 h2 h3 h4 h5 h6 h7
      obtain ⟨e2, _, _, hp⟩ := tell_late okG okT B h1 h2 h3 h7 h5 h6
      have h8 := tell_all okG okT e2 hp (j := gs.length + 1) (Nat.le_refl _)
      have h9 := tell_low okG okT hp
      rw [show gs.length + 1 - 1 = gs.length by omega] at h8
      refine h (((p : Int), (gs.length : Int)), ((gs.length : Int), ((gs.length + 1 : Nat) : Int))) ⟨⟨p, gs.length, rfl, by omega, by omega⟩, ⟨gs.length, gs.length + 1, rfl, by omega, by omega⟩, .inl (by show (p : Int) < (gs.length : Int); omega), ?_⟩
      unfold dif
      simp only [Int.toNat_natCast]
      rw [offL_getD _ _ (by omega), offL_getD _ _ (by omega), offL_getD _ _ (by omega)]
      exact h8
    obtain ⟨⟨i, j, e1, h1, h2⟩, ⟨p, q, e3, h3, h4⟩, h5, h6⟩ := hs
    obtain ⟨s1, s2⟩ := s
    cases (show s1 = ((i : Int), (j : Int)) from e1)
    cases (show s2 = ((p : Int), (q : Int)) from e3)
    have hne : ¬ (i = p ∧ j = q) := fun ⟨z1, z2⟩ => by
      subst z1; subst z2
      exact pLt_irr _ h5
    have h7 : off gs (.times b) j - off gs (.times b) i = off gs (.times b) q - off gs (.times b) p := by
      unfold dif at h6
      simp only [Int.toNat_natCast] at h6
      rw [offL_getD _ _ (by omega), offL_getD _ _ (by omega), offL_getD _ _ (by omega), offL_getD _ _ (by omega)] at h6
      exact h6
    rcases Nat.lt_or_ge (max j q) n with z | z
    · refine h (((i : Int), (j : Int)), ((p : Int), (q : Int))) ⟨⟨i, j, rfl, h1, by omega⟩, ⟨p, q, rfl, h3, by omega⟩, h5, ?_⟩
      unfold dif
      simp only [Int.toNat_natCast]
      rw [offL_getD _ _ (by omega), offL_getD _ _ (by omega), offL_getD _ _ (by omega), offL_getD _ _ (by omega)]
      exact h7
    · rcases Nat.le_total q j with y | y
      · exact key h1 h3 y h2 hne h7 (by omega)
      · exact key h3 h1 y h4 (fun ⟨z1, z2⟩ => hne ⟨z1.symm, z2.symm⟩) h7.symm (by omega)
theorem Bey.le67 {gs : List Int} {b : Int} {n : Nat} (okG : GapsOk gs) (okT : TlOk gs.length (.times b)) (B : Bey gs b (preS gs) n) : n ≤ gs.length + 46 := Bey.bd okG okT B (pre_bd okG (gs.length - 1) (by omega)).2 (by decide)
theorem TellN.le70 {gs : List Int} {tl : Tl} {n : Nat} (okG : GapsOk gs) (okT : TlOk gs.length tl) (B : TellN gs n tl) : n ≤ 70 := by
  have h := okG.1
  cases tl with
  | fin => have : n = gs.length + 1 := B; omega
  | rep m => have : n = gs.length + 2 := B; omega
  | times b => have := Bey.le67 okG okT B; omega
end RS
namespace RS
open PySem L2
section
variable {P : Program} {w : World} {K : PySem.W.Frag} {mg : Str → Option Value} {base : Heap}
/-! ### offsets_beyond, of any tail -/
theorem gap_bd2 {gs : List Int} {b : Int} (okG : GapsOk gs) (okT : TlOk gs.length (.times b)) : gapf gs (.times b) gs.length = lastG gs * b := by
  rw [gap_times (Nat.le_refl _), Nat.sub_self, Int.pow_succ, Int.pow_zero, Int.one_mul]
def spOb (C : Addr) : Sp := fun vs H Q _ => ∃ (p g t o : Addr) (gs : List Int) (tl : Tl) (reach : Int), vs = [.ref p, .int reach] ∧ RuleAt C H p g t o gs tl ∧ reach < 2 ^ 200 ∧
  ∀ q n H', H q = none → Same H H' → BeyT gs reach n tl → H' q = some (.lst ((offL gs tl n).map V.int)) → Q (.ref q) H'
def obN : List Str := ["rule", "reach", "offsets", "gap"]
theorem scOb2 : FnScope obN ["rule", "reach"] (defScope s_offsets_beyond) := ⟨rfl, rfl, rfl, by decide +kernel, rfl, by decide +kernel, by decide +kernel⟩
theorem offs_offL2 (gs : List Int) (tl : Tl) : offs gs = offL gs tl (gs.length + 1) := by
  unfold offs offL
  exact List.map_congr_left fun k hk => (off_low (by have := List.mem_range.mp hk; omega)).symm
theorem ok_ob {f C fL fT fG : Addr} {fd fdL fdT fdG : FuncData} (F : Fun K "offsets_beyond" "offsets_beyond" s_offsets_beyond f fd) (T : Txt K mg C)
    (GL : FnOk P w K mg base CX0 2 fL fdL ["rule"] (spLO C)) (bL : Binds K fdL ["rule"] []) (mL : mg "listed_offsets" = some (.ref fL)) (kL : PySem.W.keepIn K (.ref fL) = true)
    (GT : FnOk P w K mg base CX0 1 fT fdT ["self"] (spTail C)) (bT : Binds K fdT ["self"] []) (mT : Meth K C "tail" fT)
    (GG : FnOk P w K mg base CX0 1 fG fdG ["self"] (spGaps C)) (bG : Binds K fdG ["self"] []) (mG : Meth K C "gaps" fG) : FnOk P w K mg base CX0 3 f fd ["rule", "reach"] (spOb C) := by
  refine F.ok scOb2 (fun vs H Q E h => ?_) (fun cdv A outer s H vs Q E hr h => ?_)
  · obtain ⟨p, g, t, o, gs, tl, reach, rfl, _⟩ := h
    rfl
  · obtain ⟨p, g, t, o, gs, tl, reach, rfl, R, hrc, k⟩ := h
    have hr1 := hr.mono (show 1 ≤ 2 by decide)
    refine ⟨_, (pss_cons (ps_set (i := 2) scOb2.nd rfl (Or.inl rfl) (pe_call GL hr rfl mL kL bL .nil pass0 (pa_cons (pv 0) pa_nil))) (pss_cons (ps_if (pt_cmpR op_eq (pe_ix ix_tup (pe_meth0 (pv 0) T.cl mT GT hr1 bT .nil pass0) pe_int (fun _ _ => rfl)) pe_str (nomark _)) (pss_cons (ps_set (i := 3) scOb2.nd rfl (Or.inl rfl) (pe_op op_mul (pe_ix ix_list (pe_meth0 (pv 0) T.cl mG GG hr1 bG .nil pass0) (pe_un un_neg pe_int) (fun _ _ => rfl)) (pe_ix ix_tup (pe_meth0 (pv 0) T.cl mT GT hr1 bT .nil pass0) pe_int (fun _ _ => rfl)))) (pss_cons (ps_expr (pe_bm PySem.F.plainAttrs_list PySem.F.slot_list_append PySem.F.type_list_append mt_append (pv 2) (pa_cons (pe_op op_add (pe_ix ix_list (pv 2) (pe_un un_neg pe_int) (fun _ _ => rfl)) (pv 3)) pa_nil))) (pss_one (ps_while PassesOwn.never (pt_cmpR op_le (pv 3) (pv 1) (nomark _)) (pss_cons (ps_set (i := 3) scOb2.nd rfl (Or.inl rfl) (pe_op op_mul (pv 3) (pe_ix ix_tup (pe_meth0 (pv 0) T.cl mT GT hr1 bT .nil pass0) pe_int (fun _ _ => rfl)))) (pss_one (ps_expr (pe_bm PySem.F.plainAttrs_list PySem.F.slot_list_append PySem.F.type_list_append mt_append (pv 2) (pa_cons (pe_op op_add (pe_ix ix_list (pv 2) (pe_un un_neg pe_int) (fun _ _ => rfl)) (pv 3)) pa_nil))))))))) pss_nil) (pss_one (ps_ret (pv 2))))), ?_⟩
    refine ⟨_, rfl, p, g, t, o, gs, tl, rfl, R, fun q H1 hq S1 hq1 => ?_⟩
    have R1 := R.mono S1
    rw [offs_offL2 gs tl] at hq1
    obtain ⟨dx, hob⟩ := R1.ob
    have hl20 := R1.okG.1
    have nG : (flds g t o).lookup ("gaps" : Str) = none := flds_no _ _ _ (by decide +kernel) (by decide +kernel) (by decide +kernel)
    have nT : (flds g t o).lookup ("tail" : Str) = none := flds_no _ _ _ (by decide +kernel) (by decide +kernel) (by decide +kernel)
    refine ⟨_, rfl, p, dx, _, rfl, hob, nT, p, g, t, o, gs, tl, rfl, R1, t, _, _, _, rfl, rfl, SqT.of R1.ht, tl.at0, rfl, _, rfl, ?_⟩
    cases tl with
    | fin => exact iteFb wET ⟨_, rfl, k q _ H1 hq S1 rfl hq1⟩
    | rep m => exact iteFb wRT ⟨_, rfl, k q _ H1 hq S1 rfl hq1⟩
    | times b =>
      refine iteTb wTT ?_
      have okG := R1.okG
      have okT := R1.okT
      have h0 := okT.1
      have hb0 := okT.2.1
      have hb1 := okT.2.2
      have hlast := last_bd okG okT
      -- the first further gap
      refine ⟨_, rfl, p, dx, _, rfl, hob, nG, p, g, t, o, gs, .times b, rfl, R1, fun l0 hl0 => ?_⟩
      have S2 := same_new (o := .lst (gs.map V.int)) hl0
      have hl0' : (upd H1 l0 (.lst (gs.map V.int))) l0 = some (.lst (gs.map V.int)) := upd_same
      have R2 := R1.mono S2
      have hq2 := S2 _ _ hq1
      generalize (upd H1 l0 (.lst (gs.map V.int))) = H2 at S2 hl0' R2 hq2 ⊢
      obtain ⟨dx2, hob2⟩ := R2.ob
      refine ⟨_, rfl, l0, _, _, _, rfl, rfl, SqL.of hl0', at_back1 (v := .int (lastG gs)) (by rw [List.length_map]; exact h0) (by rw [List.length_map, List.getElem?_map, getD_get (by omega)]; rfl), ?_⟩
      refine ⟨_, rfl, p, dx2, _, rfl, hob2, nT, p, g, t, o, gs, .times b, rfl, R2, t, _, _, _, rfl, rfl, SqT.of R2.ht, atI_nat (j := 1) rfl, _, _, rfl, rfl, .inr ⟨by omega, by omega⟩, ?_⟩
      have S12 := S1.trans S2
      have egap : lastG gs * b = gapf gs (.times b) gs.length := (gap_bd2 okG okT).symm
      have oflen : ∀ n, ((offL gs (.times b) n).map V.int).length = n := fun n => by rw [List.length_map, offL_len]
      have hback : ∀ n, 0 < n → atI ((offL gs (.times b) n).map V.int) (-1) = some (.int (off gs (.times b) (n - 1))) := fun n hn => at_back1 (by rw [oflen]; exact hn) (by rw [oflen, List.getElem?_map, offL_get gs _ (by omega)]; rfl)
      have hsucc : ∀ n, gs.length ≤ n → off gs (.times b) n + gapf gs (.times b) n = off gs (.times b) (n + 1) := fun n hn => (off_succ okT (fun z => nomatch z)).symm
      refine ⟨_, rfl, .inl ⟨rfl, _, SqL.of hq2⟩, _, rfl, _, rfl, q, _, _, _, rfl, rfl, SqL.of hq2, hback (gs.length + 1) (by omega), _, rfl, _, _, rfl, rfl, q, _, _, rfl, rfl, hq2, by rw [oflen]; exact small1000 (by omega), ?_⟩
      have S3 : Same H (upd H2 q (.lst ((offL gs (.times b) (gs.length + 1)).map V.int ++ [.int (off gs (.times b) (gs.length + 1 - 1) + lastG gs * b)]))) := fun b' o' e => by
        rw [upd_ne (ne_of_none e hq)]
        exact S12 _ _ e
      have eq3 : (offL gs (.times b) (gs.length + 1)).map V.int ++ [V.int (off gs (.times b) (gs.length + 1 - 1) + lastG gs * b)] = (offL gs (.times b) (gs.length + 2)).map V.int := by
        rw [egap, Nat.add_sub_cancel, hsucc _ (Nat.le_refl _), offL_succ gs (.times b) (gs.length + 1), List.map_append]
        rfl
      have R3 : RuleAt C (upd H2 q (.lst ((offL gs (.times b) (gs.length + 1)).map V.int ++ [.int (off gs (.times b) (gs.length + 1 - 1) + lastG gs * b)]))) p g t o gs (.times b) := R.mono S3
      have hq3 : (upd H2 q (.lst ((offL gs (.times b) (gs.length + 1)).map V.int ++ [.int (off gs (.times b) (gs.length + 1 - 1) + lastG gs * b)]))) q = some (.lst ((offL gs (.times b) (gs.length + 2)).map V.int)) := by rw [upd_same, eq3]
      generalize (upd H2 q (.lst ((offL gs (.times b) (gs.length + 1)).map V.int ++ [.int (off gs (.times b) (gs.length + 1 - 1) + lastG gs * b)]))) = H3 at S3 R3 hq3 ⊢
      clear S12 S2 hq2 hob2 R2 hl0' hl0 hq1 hob R1 S1
      -- the further ones
      refine ⟨fun m σ H' => ∃ n : Nat, m = (reach + 1 - gapf gs (.times b) (n - 2)).toNat ∧ gs.length + 2 ≤ n ∧ σ = [some (.ref p), some (.int reach), some (.ref q), some (.int (gapf gs (.times b) (n - 2)))] ∧ Same H H' ∧ H' q = some (.lst ((offL gs (.times b) n).map V.int)) ∧ ∀ k, gs.length ≤ k → k < n - 2 → gapf gs (.times b) k ≤ reach,
        ⟨_, gs.length + 2, rfl, Nat.le_refl _, by rw [Nat.add_sub_cancel, ← egap]; rfl, S3, hq3, fun k hk1 hk2 => absurd hk2 (by omega)⟩, ?_⟩
      rintro m σ H' ⟨n, rfl, hn, rfl, S, hq', hall⟩
      refine ⟨_, rfl, _, rfl, _, _, rfl, rfl, _, rfl, ?_⟩
      have g1 := gap_next okG okT (k := n - 2) (by omega)
      have gp := gap_pos okG okT (n := n - 2) (fun z => nomatch z)
      by_cases hle : gapf gs (.times b) (n - 2) ≤ reach
      · refine iteTb (decide_eq_true hle) ?_
        have g2 := gap_two okG okT (n - 2) (by omega)
        have hn200 : n - 2 - gs.length + 1 < 200 := by
          have h4 : (2 : Int) ^ (n - 2 - gs.length + 1) < 2 ^ 200 := by omega
          have h5 : 2 ^ (n - 2 - gs.length + 1) < 2 ^ 200 := by exact_mod_cast h4
          exact (Nat.pow_lt_pow_iff_right (a := 2) (by decide)).mp h5
        have R' := R.mono S
        obtain ⟨dx', hob'⟩ := R'.ob
        refine ⟨fun σ' H2 => σ' = [some (.ref p), some (.int reach), some (.ref q), some (.int (gapf gs (.times b) (n - 1)))] ∧ Same H H2 ∧ H2 q = some (.lst ((offL gs (.times b) (n + 1)).map V.int)), ?_, ?_⟩
        · rintro σ' H2 ⟨rfl, S2, hq2⟩
          have gm := Int.mul_le_mul_of_nonneg_left (show 2 ≤ b by omega) (show 0 ≤ gapf gs (.times b) (n - 2) by omega)
          rw [show n - 2 + 1 = n - 1 by omega] at g1
          refine ⟨_, ?_, n + 1, rfl, by omega, rfl, S2, hq2, fun k hk1 hk2 => ?_⟩
          · rw [show n + 1 - 2 = n - 1 by omega]
            omega
          · by_cases hk : k < n - 2
            · exact hall k hk1 hk
            · rw [show k = n - 2 by omega]
              exact hle
        · refine ⟨_, rfl, _, rfl, p, dx', _, rfl, hob', nT, p, g, t, o, gs, .times b, rfl, R', t, _, _, _, rfl, rfl, SqT.of R'.ht, atI_nat (j := 1) rfl, _, _, rfl, rfl, .inr ⟨by omega, by omega⟩, ?_⟩
          refine ⟨_, rfl, .inl ⟨rfl, _, SqL.of hq'⟩, _, rfl, _, rfl, q, _, _, _, rfl, rfl, SqL.of hq', hback n (by omega), _, rfl, _, _, rfl, rfl, q, _, _, rfl, rfl, hq', by rw [oflen]; exact small1000 (by omega), ?_⟩
          refine ⟨?_, fun b' o' e => ?_, ?_⟩
          · rw [show n - 2 + 1 = n - 1 by omega] at g1
            rw [g1]
            rfl
          · rw [upd_ne (ne_of_none e hq)]
            exact S b' o' e
          · have hs := hsucc (n - 1) (by omega)
            rw [show n - 1 + 1 = n by omega] at hs
            rw [upd_same, offL_succ, List.map_append, ← g1, show n - 2 + 1 = n - 1 by omega, ← hs]
            rfl
      · refine iteFb (decide_eq_false hle) ?_
        exact ⟨_, rfl, k q n H' hq S ⟨hn, by omega, hall⟩ hq'⟩
end
end RS
namespace RS
open PySem L2
section
variable {P : Program} {w : World} {K : PySem.W.Frag} {mg : Str → Option Value} {base : Heap}
/-! ### the offsets whose pairs tell, of any tail -/
def spTl2 (C : Addr) : Sp := fun vs H Q _ => ∃ (p g t o : Addr) (gs : List Int) (tl : Tl), vs = [.ref p] ∧ RuleAt C H p g t o gs tl ∧ ∀ q n H', H q = none → Same H H' → TellN gs n tl → H' q = some (.lst ((offL gs tl n).map V.int)) → Q (.ref q) H'
theorem scTo2 : FnScope ["rule", "offsets"] ["rule"] (defScope s_telling_offsets) := ⟨rfl, rfl, rfl, by decide +kernel, rfl, by decide +kernel, by decide +kernel⟩
theorem ok_to2 {f C fL fR fO fT fB : Addr} {fd fdL fdR fdO fdT fdB : FuncData} (F : Fun K "_telling_offsets" "_telling_offsets" s_telling_offsets f fd) (T : Txt K mg C)
    (GL : FnOk P w K mg base CX0 2 fL fdL ["rule"] (spLO C)) (bL : Binds K fdL ["rule"] []) (mL : mg "listed_offsets" = some (.ref fL)) (kL : PySem.W.keepIn K (.ref fL) = true)
    (GR : FnOk P w K mg base CX0 1 fR fdR ["self"] (spFRA C)) (bR : Binds K fdR ["self"] []) (mR : Meth K C "first_repeating" fR)
    (GO : FnOk P w K mg base CX0 4 fO fdO ["self", "attempt"] (spOff C)) (bO : Binds K fdO ["self", "attempt"] []) (mO : Meth K C "offset" fO)
    (GT : FnOk P w K mg base CX0 1 fT fdT ["self"] (spTail C)) (bT : Binds K fdT ["self"] []) (mT : Meth K C "tail" fT)
    (GB : FnOk P w K mg base CX0 3 fB fdB ["rule", "reach"] (spOb C)) (bB : Binds K fdB ["rule", "reach"] []) (mB : mg "offsets_beyond" = some (.ref fB)) (kB : PySem.W.keepIn K (.ref fB) = true) :
    FnOk P w K mg base CX0 5 f fd ["rule"] (spTl2 C) := by
  refine F.ok scTo2 (fun vs H Q E h => ?_) (fun cdv A outer s H vs Q E hr h => ?_)
  · obtain ⟨p, g, t, o, gs, tl, rfl, _⟩ := h
    rfl
  · obtain ⟨p, g, t, o, gs, tl, rfl, R, k⟩ := h
    have hr1 := hr.mono (show 1 ≤ 4 by decide)
    have hr2 := hr.mono (show 2 ≤ 4 by decide)
    have hr3 := hr.mono (show 3 ≤ 4 by decide)
    refine ⟨_, (pss_cons (ps_set (i := 1) scTo2.nd rfl (Or.inl rfl) (pe_call GL hr2 rfl mL kL bL .nil pass0 (pa_cons (pv 0) pa_nil))) (pss_cons (ps_if (pt_cmpR op_notN (pe_meth0 (pv 0) T.cl mR GR hr1 bR .nil pass0) pe_non (nomark _)) (pss_one (ps_ret (pe_lst (StX.pa_star (pv 1) (pa_cons (pe_meth (pv 0) T.cl mO GO hr bO .nil pass0 (pa_cons (pe_callB call_len_seq (by rfl) T.len (by decide +kernel) (pa_cons (pv 1) pa_nil)) pa_nil)) pa_nil))))) pss_nil) (pss_cons (ps_if (pt_cmpR op_eq (pe_ix ix_tup (pe_meth0 (pv 0) T.cl mT GT hr1 bT .nil pass0) pe_int (fun _ _ => rfl)) pe_str (nomark _)) (pss_one (ps_ret (pe_call GB hr3 rfl mB kB bB .nil pass0 (pa_cons (pv 0) (pa_cons (pe_ix ix_list (pv 1) (pe_un un_neg pe_int) (fun _ _ => rfl)) pa_nil))))) pss_nil) (pss_one (ps_ret (pv 1)))))), ?_⟩
    refine ⟨_, rfl, p, g, t, o, gs, tl, rfl, R, fun q H1 hq S1 hq1 => ?_⟩
    have R1 := R.mono S1
    obtain ⟨dx, hob⟩ := R1.ob
    rw [offs_offL2 gs tl] at hq1
    have hl20 := R1.okG.1
    have nF : (flds g t o).lookup ("first_repeating" : Str) = none := flds_no _ _ _ (by decide +kernel) (by decide +kernel) (by decide +kernel)
    have nO : (flds g t o).lookup ("offset" : Str) = none := flds_no _ _ _ (by decide +kernel) (by decide +kernel) (by decide +kernel)
    have nT : (flds g t o).lookup ("tail" : Str) = none := flds_no _ _ _ (by decide +kernel) (by decide +kernel) (by decide +kernel)
    refine ⟨_, rfl, p, dx, _, rfl, hob, nF, p, g, t, o, gs, tl, rfl, R1, ?_⟩
    cases tl with
    | times b =>
      refine ⟨rfl, _, rfl, iteFb rfl ?_⟩
      refine ⟨_, rfl, p, dx, _, rfl, hob, nT, p, g, t, o, gs, .times b, rfl, R1, ?_⟩
      refine ⟨t, _, _, .str "times", rfl, rfl, SqT.of R1.ht, atI_nat (j := 0) rfl, rfl, _, rfl, iteTb wTT ?_⟩
      have h0 := R1.okT.1
      have hb := pre_bd R1.okG (gs.length - 1) (by omega)
      refine ⟨_, rfl, _, rfl, _, rfl, q, _, _, .int (preS gs), rfl, rfl, SqL.of hq1, ?_, p, g, t, o, gs, .times b, preS gs, rfl, R1, ?_, fun q2 n H2 hq2 S2 hB hq22 => ?_⟩
      · refine at_back (j := 2) (by decide) (by rw [List.length_map, offL_len]; omega) ?_
        rw [List.length_map, offL_len, show gs.length + 1 - 2 = gs.length - 1 by omega, List.getElem?_map, offL_get gs _ (by omega), off_low (by omega)]
        rfl
      · have : preS gs < 2 ^ 45 := hb.2
        have h3 : (2 : Int) ^ 45 < 2 ^ 200 := by decide
        omega
      · exact k q2 n H2 (S1.free hq2) (S1.trans S2) hB hq22
    | rep m =>
      refine ⟨rfl, _, rfl, iteTb rfl ?_⟩
      refine ⟨_, rfl, q, _, rfl, .inr (SqL.of hq1), _, rfl, p, dx, _, rfl, hob, nO, _, rfl, q, _, rfl, .inl (SqL.of hq1), p, g, t, o, gs, .rep m, gs.length + 1, ?_, R1, trivial, fun H2 S2 => ?_⟩
      · show [V.ref p, V.int ((((offL gs (.rep m) (gs.length + 1)).map V.int).length : Nat) : Int)] = _
        rw [List.length_map, offL_len]
      · have e : (offL gs (.rep m) (gs.length + 1)).map V.int ++ [V.int (off gs (.rep m) (gs.length + 1))] = (offL gs (.rep m) (gs.length + 2)).map V.int := by
          rw [offL_succ gs (.rep m) (gs.length + 1), List.map_append]
          rfl
        refine ⟨?_, fun l hl => ?_⟩
        · show ((offL gs (.rep m) (gs.length + 1)).map V.int ++ [V.int (off gs (.rep m) (gs.length + 1))]).length ≤ sizeLine
          rw [e, List.length_map, offL_len]
          exact Nat.le_of_lt (small1000 (by omega))
        · show Q (.ref l) (upd H2 l (.lst ((offL gs (.rep m) (gs.length + 1)).map V.int ++ [V.int (off gs (.rep m) (gs.length + 1))])))
          rw [e]
          exact k l _ _ ((S1.trans S2).free hl) ((S1.trans S2).trans (same_new hl)) rfl upd_same
    | fin =>
      refine ⟨rfl, _, rfl, iteFb rfl ?_⟩
      refine ⟨_, rfl, p, dx, _, rfl, hob, nT, p, g, t, o, gs, .fin, rfl, R1, ?_⟩
      refine ⟨t, _, _, .str "end", rfl, rfl, SqT.of R1.ht, atI_nat (j := 0) rfl, rfl, _, rfl, iteFb rfl ?_⟩
      exact ⟨_, rfl, k q _ H1 hq S1 rfl hq1⟩
end
end RS
namespace RS
open PySem L2
/-! ### slices -/
theorem cut_to (xs : List V) (n : Nat) : cutV xs none (some (n : Int)) = xs.take n := by
  unfold cutV
  rw [HT.sIx_none, HT.sIx_nat, List.drop_zero, Nat.sub_zero]
  by_cases h : n ≤ xs.length
  · rw [Nat.min_eq_left h]
  · rw [Nat.min_eq_right (by omega), List.take_length, List.take_of_length_le (by omega)]
theorem cut_mid (xs : List V) (i n : Nat) : cutV xs (some (i : Int)) (some (n : Int)) = (xs.drop i).take (n - i) := by
  unfold cutV
  rw [HT.sIx_nat, HT.sIx_nat]
  by_cases h : i ≤ xs.length
  · rw [Nat.min_eq_left h]
    by_cases h2 : n ≤ xs.length
    · rw [Nat.min_eq_left h2]
    · rw [Nat.min_eq_right (by omega), List.take_of_length_le (by rw [List.length_drop]; exact Nat.le_refl _), List.take_of_length_le (by rw [List.length_drop]; omega)]
  · rw [show min i xs.length = xs.length by omega, List.drop_of_length_le (Nat.le_refl _), List.drop_of_length_le (show xs.length ≤ i by omega)]
    simp
theorem cut_back (xs : List V) {m : Nat} (h0 : 0 < m) (h : m ≤ xs.length) : cutV xs (some (-(m : Int))) none = xs.drop (xs.length - m) := by
  have e : HT.sIx xs.length 0 (some (-(m : Int))) = xs.length - m := by
    show (if -(m : Int) < 0 then (-(m : Int) + (xs.length : Int)).toNat else min (-(m : Int)).toNat xs.length) = _
    rw [if_pos (by omega)]
    omega
  unfold cutV
  rw [e, HT.sIx_none, List.take_of_length_le (by rw [List.length_drop]; exact Nat.le_refl _)]
theorem cut_from (xs : List V) {i : Nat} (h : i ≤ xs.length) : cutV xs (some (i : Int)) none = xs.drop i := by
  unfold cutV
  rw [HT.sIx_nat, HT.sIx_none, Nat.min_eq_left h, List.take_of_length_le (by rw [List.length_drop]; exact Nat.le_refl _)]
end RS
namespace RS
open PySem L2
/-! ### a dict of lists of clients, by whole numbers -/
def kvsOf (ks : List Int) (as : List Addr) : List (Key × V) := List.zipWith (fun r a => ((Sum.inl r : Key), V.ref a)) ks as
theorem kvsOf_len {ks : List Int} {as : List Addr} (h : as.length = ks.length) : (kvsOf ks as).length = ks.length := by
  unfold kvsOf
  rw [List.length_zipWith, h, Nat.min_self]
theorem kvsOf_keys : ∀ {ks : List Int} {as : List Addr}, as.length = ks.length → (kvsOf ks as).map (fun kv => kV kv.1) = ks.map V.int
  | [], [], _ => rfl
  | [], _ :: _, h => nomatch h
  | _ :: _, [], h => nomatch h
  | r :: ks, a :: as, h => by
    have ih := kvsOf_keys (ks := ks) (as := as) (Nat.succ.inj h)
    show kV (Sum.inl r) :: (kvsOf ks as).map (fun kv => kV kv.1) = _
    rw [ih]
    rfl
theorem kvsOf_at : ∀ {ks : List Int} {as : List Addr} {j : Nat} {r : Int} {a : Addr}, ks.Nodup → ks[j]? = some r → as[j]? = some a → valV (kvsOf ks as) (Sum.inl r) = some (.ref a)
  | [], _, _, _, _, _, h, _ => nomatch h
  | _ :: _, [], _, _, _, _, _, h => nomatch h
  | q :: ks, b :: as, 0, r, a, _, h1, h2 => by
    cases h1
    cases h2
    exact valV_pos (p := ((Sum.inl q : Key), V.ref b)) rfl
  | q :: ks, b :: as, j + 1, r, a, hn, h1, h2 => by
    have h1 : ks[j]? = some r := h1
    have hq : q ≠ r := fun e => (List.nodup_cons.mp hn).1 (e ▸ List.mem_of_getElem? h1)
    have ih := kvsOf_at (List.nodup_cons.mp hn).2 h1 h2
    show valV (((Sum.inl q : Key), V.ref b) :: kvsOf ks as) (Sum.inl r) = _
    unfold valV at ih ⊢
    rw [List.find?_cons, decide_eq_false (fun e => hq (Sum.inl.inj e))]
    exact ih
theorem kvsOf_none : ∀ {ks : List Int} {as : List Addr} {r : Int}, r ∉ ks → valV (kvsOf ks as) (Sum.inl r) = none
  | [], _, _, _ => rfl
  | _ :: _, [], _, _ => rfl
  | q :: ks, b :: as, r, h => by
    have ih := kvsOf_none (ks := ks) (as := as) (r := r) fun z => h (List.mem_cons_of_mem _ z)
    show valV (((Sum.inl q : Key), V.ref b) :: kvsOf ks as) (Sum.inl r) = _
    unfold valV at ih ⊢
    rw [List.find?_cons, decide_eq_false (fun e => h ((Sum.inl.inj e : q = r) ▸ List.mem_cons_self ..))]
    exact ih
theorem kvsOf_put {ks : List Int} {as : List Addr} {r : Int} {a : Addr} (hl : as.length = ks.length) (h : r ∉ ks) : putK (kvsOf ks as) (Sum.inl r) (.ref a) = kvsOf (ks ++ [r]) (as ++ [a]) := by
  unfold putK
  rw [valV_any, kvsOf_none h, if_neg (by decide)]
  unfold kvsOf
  rw [List.zipWith_append hl.symm]
  rfl
theorem nodup_at {α : Type} : ∀ {l : List α} {i j : Nat} {x : α}, l.Nodup → l[i]? = some x → l[j]? = some x → i = j
  | [], _, _, _, _, h, _ => nomatch h
  | _ :: _, 0, 0, _, _, _, _ => rfl
  | a :: l, 0, j + 1, x, hn, h1, h2 => by
    cases h1
    exact absurd (List.mem_of_getElem? (show l[j]? = some a from h2)) (List.nodup_cons.mp hn).1
  | a :: l, i + 1, 0, x, hn, h1, h2 => by
    cases h2
    exact absurd (List.mem_of_getElem? (show l[i]? = some a from h1)) (List.nodup_cons.mp hn).1
  | a :: l, i + 1, j + 1, x, hn, h1, h2 => by
    rw [nodup_at (l := l) (List.nodup_cons.mp hn).2 h1 h2]
theorem nodup_one {α : Type} (a : α) : [a].Nodup := List.nodup_cons.mpr ⟨(fun h => nomatch h), List.Pairwise.nil⟩
end RS
namespace RS
open PySem L2
/-! ### a dict of lists, by whole numbers -/
structure DictV (H : Hp) (d : Addr) (ks : List Int) (as : List Addr) (f : Int → List V) : Prop where
  hd : H d = some (.dK (kvsOf ks as))
  nk : ks.Nodup
  na : as.Nodup
  len : as.length = ks.length
  ls : ∀ (j : Nat) (r : Int) (a : Addr), ks[j]? = some r → as[j]? = some a → H a = some (.lst (f r))
  out : ∀ r, r ∉ ks → f r = []
theorem DictV.keep {H H' : Hp} {d : Addr} {ks : List Int} {as : List Addr} {f : Int → List V} (D : DictV H d ks as f) (h1 : H' d = H d) (h2 : ∀ a ∈ as, H' a = H a) : DictV H' d ks as f :=
  ⟨h1.trans D.hd, D.nk, D.na, D.len, fun j r a e1 e2 => (h2 a (List.mem_of_getElem? e2)).trans (D.ls j r a e1 e2), D.out⟩
theorem DictV.some_ {H : Hp} {d : Addr} {ks : List Int} {as : List Addr} {f : Int → List V} (D : DictV H d ks as f) {a : Addr} (h : a ∈ as) : ∃ r, H a = some (.lst (f r)) := by
  obtain ⟨j, hj, e⟩ := List.mem_iff_getElem.mp h
  have hk : j < ks.length := by rw [← D.len]; exact hj
  exact ⟨ks[j], D.ls j _ a (List.getElem?_eq_getElem hk) (e ▸ List.getElem?_eq_getElem hj)⟩
theorem DictV.same {H H' : Hp} {d : Addr} {ks : List Int} {as : List Addr} {f : Int → List V} (D : DictV H d ks as f) (S : Same H H') : DictV H' d ks as f :=
  D.keep ((S _ _ D.hd).trans D.hd.symm) fun a ha => let ⟨_, e⟩ := D.some_ ha; (S _ _ e).trans e.symm
theorem DictV.nd {H : Hp} {d : Addr} {ks : List Int} {as : List Addr} {f : Int → List V} (D : DictV H d ks as f) : d ∉ as := fun h => by
  obtain ⟨r, e⟩ := D.some_ h
  rw [D.hd] at e
  cases e
/-- where the list of a number stands -/
theorem DictV.at_ {H : Hp} {d : Addr} {ks : List Int} {as : List Addr} {f : Int → List V} (D : DictV H d ks as f) {r : Int} (h : r ∈ ks) : ∃ (j : Nat) (a : Addr), ks[j]? = some r ∧ as[j]? = some a ∧ H a = some (.lst (f r)) ∧ valV (kvsOf ks as) (Sum.inl r) = some (.ref a) := by
  obtain ⟨j, hj, e⟩ := List.mem_iff_getElem.mp h
  have hk : ks[j]? = some r := e ▸ List.getElem?_eq_getElem hj
  have ha : as[j]? = some (as[j]'(by rw [D.len]; exact hj)) := List.getElem?_eq_getElem _
  exact ⟨j, _, hk, ha, D.ls j r _ hk ha, kvsOf_at D.nk hk ha⟩
/-- another list for a number -/
theorem DictV.set {H : Hp} {d : Addr} {ks : List Int} {as : List Addr} {f : Int → List V} (D : DictV H d ks as f) {j : Nat} {r : Int} {a : Addr} (h1 : ks[j]? = some r) (h2 : as[j]? = some a) (l : List V) : DictV (upd H a (.lst l)) d ks as (fun x => if x = r then l else f x) := by
  have hm := List.mem_of_getElem? h2
  refine ⟨by rw [upd_ne (fun (e : d = a) => D.nd (by rw [e]; exact hm))]; exact D.hd, D.nk, D.na, D.len, fun j' r' a' e1 e2 => ?_, fun x hx => ?_⟩
  · by_cases hj : j' = j
    · subst hj
      rw [h1] at e1
      rw [h2] at e2
      cases e1
      cases e2
      rw [upd_same, if_pos rfl]
    · have hr : r' ≠ r := fun e => by
        subst e
        exact hj (nodup_at D.nk e1 h1)
      have ha : a' ≠ a := fun e => by
        subst e
        exact hj (nodup_at D.na e2 h2)
      rw [upd_ne ha, if_neg hr]
      exact D.ls j' r' a' e1 e2
  · show (if x = r then l else f x) = []
    rw [if_neg (fun (e : x = r) => hx (by rw [e]; exact List.mem_of_getElem? h1))]
    exact D.out x hx
/-- a number that is new -/
theorem DictV.add {H : Hp} {d : Addr} {ks : List Int} {as : List Addr} {f : Int → List V} (D : DictV H d ks as f) {r : Int} {a : Addr} (h : r ∉ ks) (ha : H a = none) : DictV (upd (upd H a (.lst [])) d (.dK (putK (kvsOf ks as) (Sum.inl r) (.ref a)))) d (ks ++ [r]) (as ++ [a]) f := by
  have nad : a ≠ d := (ne_of_none D.hd ha).symm
  have nas : a ∉ as := fun z => by
    obtain ⟨x, e⟩ := D.some_ z
    rw [ha] at e
    cases e
  refine ⟨by rw [upd_same, kvsOf_put D.len h], ?_, ?_, by rw [List.length_append, List.length_append, D.len]; rfl, fun j r' a' e1 e2 => ?_, fun x hx => D.out x fun z => hx (List.mem_append_left _ z)⟩
  · exact List.nodup_append.mpr ⟨D.nk, nodup_one r, fun x hx y hy e => h (by rw [← List.mem_singleton.mp hy, ← e]; exact hx)⟩
  · exact List.nodup_append.mpr ⟨D.na, nodup_one a, fun x hx y hy e => nas (by rw [← List.mem_singleton.mp hy, ← e]; exact hx)⟩
  · by_cases hj : j < ks.length
    · rw [List.getElem?_append_left hj] at e1
      rw [List.getElem?_append_left (by rw [D.len]; exact hj)] at e2
      have hm := List.mem_of_getElem? e2
      rw [upd_ne (fun (e : a' = d) => D.nd (by rw [← e]; exact hm)), upd_ne (fun (e : a' = a) => nas (by rw [← e]; exact hm))]
      exact D.ls j r' a' e1 e2
    · rw [List.getElem?_append_right (by omega)] at e1
      rw [List.getElem?_append_right (by rw [D.len]; omega)] at e2
      have z1 := List.getElem?_eq_some_iff.mp e1
      have z2 := List.getElem?_eq_some_iff.mp e2
      have y1 : r' = r := by
        have := List.mem_of_getElem? e1
        exact List.mem_singleton.mp this
      have y2 : a' = a := by
        have := List.mem_of_getElem? e2
        exact List.mem_singleton.mp this
      subst y1 y2
      rw [upd_ne nad, upd_same, D.out _ h]
/-! ### the pairs by their difference -/
/-- the pairs of first attempts, in their order, up to a pair -/
structure UpTo (n i j : Nat) (ps : List Pr) : Prop where
  pw : ps.Pairwise pLt
  mem : ∀ p : Pr, p ∈ ps ↔ InL n p ∧ (p.1 < (i : Int) ∨ p.1 = (i : Int) ∧ p.2 < (j : Int))
theorem UpTo.zero (n : Nat) : UpTo n 0 0 [] := ⟨List.Pairwise.nil, fun p => ⟨(fun h => nomatch h), (fun ⟨⟨a, b, e, h1, h2⟩, h3⟩ => by
  subst e
  have h3 : ((a : Int) < ((0 : Nat) : Int)) ∨ (a : Int) = ((0 : Nat) : Int) ∧ (b : Int) < ((0 : Nat) : Int) := h3
  omega)⟩⟩
theorem UpTo.row {n i : Nat} {ps : List Pr} (h : UpTo n i 0 ps) : UpTo n i (i + 1) ps := ⟨h.pw, fun p => (h.mem p).trans ⟨fun ⟨a, b⟩ => ⟨a, by omega⟩, fun ⟨a, b⟩ => ⟨a, by
  obtain ⟨x, y, rfl, h1, h2⟩ := a
  simp only at b ⊢
  omega⟩⟩⟩
theorem UpTo.next {n i : Nat} {ps : List Pr} (h : UpTo n i n ps) : UpTo n (i + 1) 0 ps := ⟨h.pw, fun p => (h.mem p).trans ⟨fun ⟨a, b⟩ => ⟨a, by
  obtain ⟨x, y, rfl, h1, h2⟩ := a
  simp only at b ⊢
  omega⟩, fun ⟨a, b⟩ => ⟨a, by
  obtain ⟨x, y, rfl, h1, h2⟩ := a
  simp only at b ⊢
  omega⟩⟩⟩
theorem UpTo.step {n i j : Nat} {ps : List Pr} (h : UpTo n i j ps) (h1 : i < j) (h2 : j < n) : UpTo n i (j + 1) (ps ++ [((i : Int), (j : Int))]) := by
  refine ⟨List.pairwise_append.mpr ⟨h.pw, List.pairwise_singleton .., fun p hp q hq => ?_⟩, fun p => ?_⟩
  · rw [List.mem_singleton.mp hq]
    exact ((h.mem p).mp hp).2
  · rw [List.mem_append, List.mem_singleton, h.mem p]
    constructor
    · rintro (⟨a, b⟩ | rfl)
      · exact ⟨a, by omega⟩
      · exact ⟨⟨i, j, rfl, h1, h2⟩, .inr ⟨rfl, by show (j : Int) < ((j + 1 : Nat) : Int); omega⟩⟩
    · rintro ⟨a, b⟩
      by_cases e : p.1 = (i : Int) ∧ p.2 = (j : Int)
      · exact .inr (Prod.ext e.1 e.2)
      · exact .inl ⟨a, by omega⟩
/-- the pairs with a difference -/
def grp (os : List Int) (ps : List Pr) (r : Int) : List Pr := ps.filter fun p => decide (dif os p = r)
theorem grp_snoc (os : List Int) (ps : List Pr) (p : Pr) (r : Int) : grp os (ps ++ [p]) r = if r = dif os p then grp os ps r ++ [p] else grp os ps r := by
  unfold grp
  rw [List.filter_append]
  by_cases h : r = dif os p
  · rw [if_pos h, List.filter_cons, if_pos (decide_eq_true h.symm)]
    rfl
  · rw [if_neg h, List.filter_cons, if_neg (by rw [decide_eq_false (fun e => h e.symm)]; decide)]
    exact List.append_nil _
end RS
namespace RS
open PySem L2
structure GrpAt (H H' : Hp) (d : Addr) (ks : List Int) (as : List Addr) (ad : Int → List Addr) (os : List Int) (PS : List Pr) (n i j : Nat) : Prop where
  S : Same H H'
  D : DictV H' d ks as (fun r => (ad r).map V.ref)
  tp : ∀ r, TupsI H' (ad r) (grp os PS r)
  up : UpTo n i j PS
  fr : ∀ a ∈ as, H a = none
  lk : ks.length ≤ PS.length
  lp : PS.length ≤ 70 * i + j
  kne : ∀ r ∈ ks, grp os PS r ≠ []
theorem GrpAt.same {H H' H2 : Hp} {d : Addr} {ks : List Int} {as : List Addr} {ad : Int → List Addr} {os : List Int} {PS : List Pr} {n i j : Nat} (G : GrpAt H H' d ks as ad os PS n i j) (S : Same H' H2) : GrpAt H H2 d ks as ad os PS n i j :=
  ⟨G.S.trans S, G.D.same S, fun r => (G.tp r).same S, G.up, G.fr, G.lk, G.lp, G.kne⟩
theorem GrpAt.len {H H' : Hp} {d : Addr} {ks : List Int} {as : List Addr} {ad : Int → List Addr} {os : List Int} {PS : List Pr} {n i j : Nat} (G : GrpAt H H' d ks as ad os PS n i j) (r : Int) : (ad r).length ≤ PS.length := by
  rw [(G.tp r).1]
  exact List.length_filter_le ..
/-- the pair enters its list -/
theorem GrpAt.put {H H' : Hp} {d a u : Addr} {ks : List Int} {as : List Addr} {ad : Int → List Addr} {os : List Int} {PS : List Pr} {n i j jx : Nat} {r : Int} {v : List V} (D : DictV H' d ks as (fun r => (ad r).map V.ref)) (S : Same H H') (tp : ∀ r, TupsI H' (ad r) (grp os PS r)) (up : UpTo n i j PS) (fr : ∀ a ∈ as, H a = none) (lk : ks.length ≤ PS.length + 1) (lp : PS.length ≤ 70 * i + j) (kne : ∀ x ∈ ks, x ≠ r → grp os PS x ≠ [])
    (hr : r = dif os ((i : Int), (j : Int))) (h1 : ks[jx]? = some r) (h2 : as[jx]? = some a) (hu : H' u = some (.tup [.int (i : Int), .int (j : Int)])) (hij : i < j) (hj : j < n) (hv : v = (ad r).map V.ref ++ [V.ref u]) :
    GrpAt H (upd H' a (.lst v)) d ks as (fun x => if x = r then ad r ++ [u] else ad x) os (PS ++ [((i : Int), (j : Int))]) n i (j + 1) := by
  subst hv
  have ha := D.ls jx r a h1 h2
  have nt : ∀ (y : Addr) (xs : List V), H' y = some (.tup xs) → upd H' a (.lst ((ad r).map V.ref ++ [V.ref u])) y = some (.tup xs) := fun y xs e => by
    rw [upd_ne (ne_of e ha (by intro z; cases z))]
    exact e
  refine ⟨fun b o e => ?_, ?_, fun x => ?_, up.step hij hj, fr, by rw [List.length_append]; exact lk, by rw [List.length_append, List.length_singleton]; omega, fun x hx => ?_⟩
  · rw [upd_ne (ne_of_none e (fr a (List.mem_of_getElem? h2)))]
    exact S _ _ e
  · have := D.set h1 h2 ((ad r).map V.ref ++ [V.ref u])
    have e : (fun x => if x = r then (ad r).map V.ref ++ [V.ref u] else (ad x).map V.ref) = fun x => (if x = r then ad r ++ [u] else ad x).map V.ref := by
      funext x
      split
      · rw [List.map_append]
        rfl
      · rfl
    rw [e] at this
    exact this
  · show TupsI _ (if x = r then ad r ++ [u] else ad x) _
    rw [grp_snoc, ← hr]
    by_cases hx : x = r
    · subst hx
      rw [if_pos rfl, if_pos rfl]
      exact ((tp x).kx nt).snoc (nt _ _ hu)
    · rw [if_neg hx, if_neg hx]
      exact (tp x).kx nt
  · rw [grp_snoc, ← hr]
    by_cases hxr : x = r
    · rw [if_pos hxr]
      exact fun z => nomatch (List.append_eq_nil_iff.mp z).2
    · rw [if_neg hxr]
      exact kne x hx hxr
section
variable {P : Program} {w : World} {K : PySem.W.Frag} {mg : Str → Option Value} {base : Heap}
def spPd : Sp := fun vs H Q _ => ∃ (q : Addr) (os : List Int), vs = [.ref q] ∧ H q = some (.lst (os.map V.int)) ∧ os.length ≤ 70 ∧ ∀ d ks as ad PS H', H d = none → GrpAt H H' d ks as ad os PS os.length os.length 0 → Q (.ref d) H'
def pdN : List Str := ["offsets", "groups", "first", "second"]
theorem scPd : FnScope pdN ["offsets"] (defScope s_pairs_by_difference) := ⟨rfl, rfl, rfl, by decide +kernel, rfl, by decide +kernel, by decide +kernel⟩
theorem ok_pd {f C : Addr} {fd : FuncData} (F : Fun K "_pairs_by_difference" "_pairs_by_difference" s_pairs_by_difference f fd) (T : Txt K mg C) : FnOk P w K mg base CX0 1 f fd ["offsets"] spPd := by
  refine F.ok scPd (fun vs H Q E h => ?_) (fun cdv A outer s H vs Q E hr h => ?_)
  · obtain ⟨q, os, rfl, _⟩ := h
    rfl
  · obtain ⟨q, os, rfl, hq, hl, k⟩ := h
    refine ⟨_, (pss_cons (ps_set (i := 1) scPd.nd rfl (Or.inl rfl) pe_dnewK) (pss_cons (ps_for PassesOwn.never rfl (pi_range1 rfl T.range (pa_cons (pe_callB call_len_seq (by rfl) T.len (by decide +kernel) (pa_cons (pv 0) pa_nil)) pa_nil)) (pg_name (i := 2) scPd.nd rfl (Or.inl rfl)) (pss_one (ps_for PassesOwn.never rfl (pi_range2 rfl T.range (pa_cons (pe_op op_add (pv 2) pe_int) (pa_cons (pe_callB call_len_seq (by rfl) T.len (by decide +kernel) (pa_cons (pv 0) pa_nil)) pa_nil))) (pg_name (i := 3) scPd.nd rfl (Or.inl rfl)) (pss_one (ps_expr (pe_bm PySem.F.plainAttrs_list PySem.F.slot_list_append PySem.F.type_list_append mt_append (L2.pe_dsetd (pv 1) (pe_op op_sub (pe_ix ix_list (pv 0) (pv 3) (fun _ _ => rfl)) (pe_ix ix_list (pv 0) (pv 2) (fun _ _ => rfl))) (pe_lst pa_nil) ⟨by rfl, by rfl, by rfl, by rfl⟩) (pa_cons (pe_tup (pa_cons (pv 2) (pa_cons (pv 3) pa_nil))) pa_nil))))))) (pss_one (ps_ret (pv 1))))), ?_⟩
    intro d hd
    have hd0 : (upd H d (.dK [])) d = some (.dK []) := upd_same
    have S0 : Same H (upd H d (.dK [])) := same_new hd
    refine ⟨_, rfl, q, _, rfl, .inl (SqL.of (S0 _ _ hq)), ?_⟩
    have hn : ((((os.map V.int).length : Nat) : Int)).toNat = os.length := by rw [List.length_map, Int.toNat_natCast]
    refine ⟨_, rfl, by rw [List.length_map]; omega, by rw [List.length_map]; omega, for_range (lo := 0) (n := ((((os.map V.int).length : Nat) : Int)).toNat) (fun i σ H' => ∃ (v2 v3 : Option V) (ks : List Int) (as : List Addr) (ad : Int → List Addr) (PS : List Pr), σ = [some (.ref q), some (.ref d), v2, v3] ∧ GrpAt H H' d ks as ad os PS os.length i 0)
      ⟨none, none, [], [], fun _ => [], [], rfl, S0, ⟨hd0, List.Pairwise.nil, List.Pairwise.nil, rfl, (fun j r a h => nomatch h), fun r _ => rfl⟩, fun r => TupsI.nil, UpTo.zero _, (fun a h => nomatch h), Nat.le_refl _, Nat.zero_le _, (fun r h => nomatch h)⟩ ?_ ?_⟩
    · rintro i σ H1 hi ⟨v2, v3, ks, as, ad, PS, rfl, G⟩
      rw [hn] at hi
      refine ⟨_, rfl, _, _, rfl, rfl, _, rfl, q, _, rfl, .inl (SqL.of (G.S _ _ hq)), ?_⟩
      have hn2 : ((((os.map V.int).length : Nat) : Int) - ((0 : Int) + (i : Int) + 1)).toNat = os.length - (i + 1) := by
        rw [List.length_map]
        omega
      have hyi : os[i]? = some (os.getD i 0) := by rw [List.getD_eq_getElem?_getD, List.getElem?_eq_getElem hi]; rfl
      refine ⟨_, _, rfl, ⟨by omega, by omega, by rw [List.length_map]; omega, by rw [List.length_map]; omega⟩, for_range (lo := (0 : Int) + (i : Int) + 1) (n := ((((os.map V.int).length : Nat) : Int) - ((0 : Int) + (i : Int) + 1)).toNat) (fun k2 σ H' => ∃ (v3 : Option V) (ks : List Int) (as : List Addr) (ad : Int → List Addr) (PS : List Pr), σ = [some (.ref q), some (.ref d), some (.int ((0 : Int) + (i : Int))), v3] ∧ GrpAt H H' d ks as ad os PS os.length i (i + 1 + k2))
        ⟨v3, ks, as, ad, PS, rfl, ⟨G.S, G.D, G.tp, G.up.row, G.fr, G.lk, by have := G.lp; omega, G.kne⟩⟩ ?_ ?_⟩
      · rintro k2 σ H2 hk2 ⟨v3, ks, as, ad, PS, rfl, G⟩
        rw [hn2] at hk2
        have hj : i + 1 + k2 < os.length := by omega
        generalize hjj : i + 1 + k2 = j at hj G ⊢
        have hyj : os[j]? = some (os.getD j 0) := by rw [List.getD_eq_getElem?_getD, List.getElem?_eq_getElem hj]; rfl
        have e3 : (0 : Int) + (i : Int) + 1 + (k2 : Int) = (j : Int) := by omega
        have e2 : (0 : Int) + (i : Int) = (i : Int) := by omega
        have hq2 := G.S _ _ hq
        dsimp only [gName]
        rw [e3, e2]
        have hxj : atI (os.map V.int) (j : Int) = some (.int (os.getD j 0)) := atI_nat (by rw [List.getElem?_map, hyj]; rfl)
        have hxi : atI (os.map V.int) (i : Int) = some (.int (os.getD i 0)) := atI_nat (by rw [List.getElem?_map, hyi]; rfl)
        refine ⟨_, rfl, d, rfl, .inl ⟨_, .inl G.D.hd⟩, _, rfl, _, rfl, q, _, _, _, rfl, rfl, SqL.of hq2, hxj, _, rfl, _, rfl, q, _, _, _, rfl, rfl, SqL.of hq2, hxi, _, _, rfl, rfl, (by show 0 ≤ sizeLine; decide), fun l hl0 => ?_⟩
        have hij : i < j := by omega
        have S3 := same_new (o := .lst []) hl0
        have hll : (upd H2 l (.lst [])) l = some (.lst []) := upd_same
        have G3 := G.same S3
        have hlH : H l = none := G.S.free hl0
        have hks : ks.length ≤ 100000 := by have := G.lk; have := G.lp; omega
        have hPS : PS.length ≤ 5000 := by have := G.lp; omega
        have nld : l ≠ d := (ne_of_none G.D.hd hl0).symm
        have edif : os.getD j 0 - os.getD i 0 = dif os ((i : Int), (j : Int)) := rfl
        have S3d := S3 _ _ G.D.hd
        refine ⟨kvsOf ks as, Sum.inl (dif os ((i : Int), (j : Int))), S3d, rfl, by rw [kvsOf_len G.D.len]; exact small_line hks, fun v hv => ?_, fun hv => ?_⟩
        · by_cases hm : dif os ((i : Int), (j : Int)) ∈ ks
          case neg =>
            rw [kvsOf_none hm] at hv
            cases hv
          obtain ⟨jx, a, hk', ha', hla, hval⟩ := G.D.at_ hm
          rw [hval] at hv
          cases hv
          have hla3 := S3 _ _ hla
          refine ⟨.inl ⟨rfl, _, SqL.of hla3⟩, _, rfl, _, rfl, (by show 2 ≤ sizeLine; decide), fun u hu => ?_⟩
          have S4 := same_new (o := .tup [.int (i : Int), .int (j : Int)]) hu
          have G4 := G3.same S4
          refine ⟨a, _, _, rfl, rfl, S4 _ _ hla3, (by rw [List.length_map]; have := G.len (dif os ((i : Int), (j : Int))); exact small_line (by omega)), ?_⟩
          have G5 := GrpAt.put G4.D G4.S G4.tp G4.up G4.fr (Nat.le_succ_of_le G4.lk) G4.lp (fun x hx _ => G4.kne x hx) rfl hk' ha' upd_same hij hj rfl
          exact ⟨_, ks, as, _, _, rfl, (show i + 1 + (k2 + 1) = j + 1 by omega) ▸ G5⟩
        · have hm : dif os ((i : Int), (j : Int)) ∉ ks := fun hm => by
            obtain ⟨jx, a, hk', ha', hla, hval⟩ := G.D.at_ hm
            rw [hval] at hv
            cases hv
          have D3 := G.D.add hm hl0
          have ead : ad (dif os ((i : Int), (j : Int))) = [] := List.map_eq_nil_iff.mp (G.D.out _ hm)
          have hl3 : (upd (upd H2 l (.lst [])) d (.dK (putK (kvsOf ks as) (Sum.inl (dif os ((i : Int), (j : Int)))) (.ref l)))) l = some (.lst []) := by rw [upd_ne nld]; exact hll
          have S5 : Same H (upd (upd H2 l (.lst [])) d (.dK (putK (kvsOf ks as) (Sum.inl (dif os ((i : Int), (j : Int)))) (.ref l)))) := fun b o e => by
            rw [upd_ne (ne_of_none e hd)]
            exact G3.S _ _ e
          have tp5 : ∀ r, TupsI (upd (upd H2 l (.lst [])) d (.dK (putK (kvsOf ks as) (Sum.inl (dif os ((i : Int), (j : Int)))) (.ref l)))) (ad r) (grp os PS r) := fun r => (G3.tp r).kx fun y xs e => by
            rw [upd_ne (ne_of e S3d (by intro z; cases z))]
            exact e
          generalize (upd (upd H2 l (.lst [])) d (.dK (putK (kvsOf ks as) (Sum.inl (dif os ((i : Int), (j : Int)))) (.ref l)))) = H5 at D3 hl3 S5 tp5
          refine ⟨.inl ⟨rfl, _, SqL.of hl3⟩, _, rfl, _, rfl, (by show 2 ≤ sizeLine; decide), fun u hu => ?_⟩
          have S6 := same_new (o := .tup [.int (i : Int), .int (j : Int)]) hu
          refine ⟨l, _, _, rfl, rfl, S6 _ _ hl3, (by show 0 < sizeLine; decide), ?_⟩
          have hkn : (ks ++ [dif os ((i : Int), (j : Int))])[ks.length]? = some (dif os ((i : Int), (j : Int))) := by rw [List.getElem?_append_right (Nat.le_refl _), Nat.sub_self]; rfl
          have han : (as ++ [l])[ks.length]? = some l := by rw [← G.D.len, List.getElem?_append_right (Nat.le_refl _), Nat.sub_self]; rfl
          have G7 := GrpAt.put (D3.same S6) (S5.trans S6) (fun r => (tp5 r).same S6) G.up (fun a ha => (List.mem_append.mp ha).elim (G.fr a) (fun z => by rw [List.mem_singleton.mp z]; exact hlH)) (by rw [List.length_append, List.length_singleton]; have := G.lk; omega) G.lp (fun x hx hne => (List.mem_append.mp hx).elim (G.kne x) (fun z => absurd (List.mem_singleton.mp z) hne)) rfl hkn han upd_same hij hj (v := [] ++ [V.ref u]) (by rw [ead]; rfl)
          exact ⟨_, ks ++ [dif os ((i : Int), (j : Int))], as ++ [l], _, _, rfl, (show i + 1 + (k2 + 1) = j + 1 by omega) ▸ G7⟩
      · rintro σ H2 ⟨v3, ks, as, ad, PS, rfl, G⟩
        rw [hn2, show i + 1 + (os.length - (i + 1)) = os.length by omega] at G
        exact ⟨_, _, ks, as, ad, PS, rfl, G.S, G.D, G.tp, G.up.next, G.fr, G.lk, by have := G.lp; omega, G.kne⟩
    · rintro σ H1 ⟨v2, v3, ks, as, ad, PS, rfl, G⟩
      rw [hn] at G
      exact ⟨_, rfl, k d ks as ad PS H1 hd G⟩
end
end RS
namespace RS
open PySem L2 PySem.Spec PyProof.Rows
/-! ### min(xs, default = v) of a list of ints: the machine's loop, with a keyword handed along -/
section
variable {prog : Program} {w : World} {A : Around} {R : Result → Shared → Prop} {I : Addr} {fp wr : List Addr} {n : Nat} {Pn : Nat → Value → Prop} {Sn : Nat → Heap → Prop} {kw : List (Str × Value)}
theorem minLoopName : (toString "min" ++ toString ".loop" : String) = "min.loop" := by decide
theorem min_turns (W : Walks prog w A.in1 I fp wr n Pn Sn) (bt : Nat → Nat → Bool) (cmp : CmpOf prog w A.in1 .Lt Pn bt) (S : Addr) (nS : S ∉ fp) : ∀ (k j : Nat) (s : Shared) (vb : Value) (c : Nat),
    n - (j + 1) = k → j + 1 ≤ n → Sn (j + 1) s.heap → Pn (argBest bt j) vb → s.heap.get? S = some { cls := .type "list", dict := none, data := .seq #[vb, vb] c, slots := #[] } →
    (∀ v h' tk, Pn (argBest bt (n - 1)) v → (∀ b o, b ∉ wr → b ≠ S → s.heap.get? b = some o → h'.get? b = some o) →
      R (.ok (.ret v)) { s with heap := h', toks := tk }) →
    codeAny (model prog w) A (.builtin "min.loop" ⟨[.ref I, .none, .ref S], kw⟩) R s := by
  have nSw : S ∉ wr := fun z => nS (W.sub _ z)
  intro k
  induction k with
  | zero =>
    intro j s vb c ek hj st pb hS hR
    obtain rfl : n = j + 1 := by omega
    refine codeAny_builtin F.entry_min_loop ?_
    rw [Around.under_plainId F.plain_min_loop _]
    show wpAny _ A.in1 (seqItems? (Value.ref S) >>= _) _ _ s
    refine wpAny_bind (wpAny_seqItems hS rfl ?_)
    show wpAny _ A.in1 (tryCatch (pyNext (Value.ref I)) _ >>= _) _ _ s
    refine wpAny_bind (wpAny_tryCatch (W.done s _ _ st ?_))
    intro h' tk hk
    have hS2 := hk S _ nSw hS
    show wpAny _ A.in1 (updateSeq S (fun _ => (#[] : Array Value)) >>= _) _ _ _
    refine wpAny_bind (wpAny_updateSeq hS2 rfl (wpAny_bind (wpAny_letGo (wpAny_pure ?_))))
    exact hR vb _ tk pb fun b o nb nbS e => (Heap.get?_update_other _ _ (Ne.symm nbS)).trans (hk b o nb e)
  | succ k ih =>
    intro j s vb c ek hj st pb hS hR
    have lt : j + 1 < n := by omega
    refine codeAny_builtin F.entry_min_loop ?_
    rw [Around.under_plainId F.plain_min_loop _]
    show wpAny _ A.in1 (seqItems? (Value.ref S) >>= _) _ _ s
    refine wpAny_bind (wpAny_seqItems hS rfl ?_)
    show wpAny _ A.in1 (tryCatch (pyNext (Value.ref I)) _ >>= _) _ _ s
    refine wpAny_bind (wpAny_tryCatch (W.item (j + 1) s _ _ lt st ?_))
    intro v h' tk pv' st' hk
    have hS2 := hk S _ nSw hS
    show wpAny _ A.in1 (tryCatch (holding [v, v] (richCompare .Lt v vb >>= _)) _ >>= _) _ _ _
    refine wpAny_bind (wpAny_tryCatch (wpAny_holding (wpAny_bind (cmp (j + 1) (argBest bt j) v vb _ _ _ pv' pb ?_))))
    refine wpAny_bind (wpAny_holding (wpAny_truthy_bool (wpAny_bind (wpAny_letGo (wpAny_pure ?_)))))
    by_cases hb : bt (j + 1) (argBest bt j) = true
    · have eb : argBest bt (j + 1) = j + 1 := by unfold argBest; rw [if_pos hb]
      simp only [hb, if_true]
      refine wpAny_bind (wpAny_updateSeq hS2 rfl (wpAny_bind (wpAny_letGo ?_)))
      rw [minLoopName]
      refine wpAny_pure ⟨plainId_quiet F.plain_min_loop _, ih (j + 1) _ v _ (by omega) lt (W.frame _ _ _ st' fun b bf o e => ?_) (by rw [eb]; exact pv') (Heap.get?_update_self _ hS2 rfl) fun v2 h2 tk2 p2 k2 => ?_⟩
      · exact (Heap.get?_update_other _ _ (show S ≠ b from fun z => nS (by rw [z]; exact bf))).trans e
      · exact hR v2 h2 tk2 p2 fun b o nb nbS e => k2 b o nb nbS ((Heap.get?_update_other _ _ (Ne.symm nbS)).trans (hk b o nb e))
    · have eb : argBest bt (j + 1) = argBest bt j := by
        show (if bt (j + 1) (argBest bt j) then j + 1 else argBest bt j) = _
        rw [if_neg hb]
      simp only [hb, if_false, Bool.false_eq_true]
      refine wpAny_bind (wpAny_letGo ?_)
      rw [minLoopName]
      exact wpAny_pure ⟨plainId_quiet F.plain_min_loop _, ih (j + 1) _ vb c (by omega) lt st' (by rw [eb]; exact pb) hS2 fun v2 h2 tk2 p2 k2 => hR v2 h2 tk2 p2 fun b o nb nbS e => k2 b o nb nbS (hk b o nb e)⟩
theorem min_first (W : Walks prog w A.in1 I fp wr n Pn Sn) (bt : Nat → Nat → Bool) (cmp : CmpOf prog w A.in1 .Lt Pn bt) (S : Addr) (nS : S ∉ fp) (pos : 0 < n) {s : Shared} {c : Nat} (st : Sn 0 s.heap) (hS : s.heap.get? S = some { cls := .type "list", dict := none, data := .seq #[] c, slots := #[] })
    (hR : ∀ v h' tk, Pn (argBest bt (n - 1)) v → (∀ b o, b ∉ wr → b ≠ S → s.heap.get? b = some o → h'.get? b = some o) →
      R (.ok (.ret v)) { s with heap := h', toks := tk }) :
    codeAny (model prog w) A (.builtin "min.loop" ⟨[.ref I, .none, .ref S], kw⟩) R s := by
  have nSw : S ∉ wr := fun z => nS (W.sub _ z)
  refine codeAny_builtin F.entry_min_loop ?_
  rw [Around.under_plainId F.plain_min_loop _]
  show wpAny _ A.in1 (seqItems? (Value.ref S) >>= _) _ _ s
  refine wpAny_bind (wpAny_seqItems hS rfl ?_)
  show wpAny _ A.in1 (tryCatch (pyNext (Value.ref I)) _ >>= _) _ _ s
  refine wpAny_bind (wpAny_tryCatch (W.item 0 s _ _ pos st ?_))
  intro v h' tk pv' st' hk
  have hS2 := hk S _ nSw hS
  show wpAny _ A.in1 (updateSeq S (fun _ => #[v, v]) >>= _) _ _ _
  refine wpAny_bind (wpAny_updateSeq hS2 rfl ?_)
  rw [minLoopName]
  refine wpAny_pure ⟨plainId_quiet F.plain_min_loop _, min_turns W bt cmp S nS _ 0 _ v _ rfl pos (W.frame _ _ _ st' fun b bf o e => ?_) pv' (Heap.get?_update_self _ hS2 rfl) fun v2 h2 tk2 p2 k2 => ?_⟩
  · exact (Heap.get?_update_other _ _ (show S ≠ b from fun z => nS (by rw [z]; exact bf))).trans e
  · exact hR v2 h2 tk2 p2 fun b o nb nbS e => k2 b o nb nbS ((Heap.get?_update_other _ _ (Ne.symm nbS)).trans (hk b o nb e))
theorem min_none (W : Walks prog w A.in1 I fp wr 0 Pn Sn) (S : Addr) (nS : S ∉ fp) {x : Str} {d : Value} {s : Shared} {c : Nat} (st : Sn 0 s.heap) (hS : s.heap.get? S = some { cls := .type "list", dict := none, data := .seq #[] c, slots := #[] })
    (hR : ∀ h' tk, (∀ b o, b ∉ wr → s.heap.get? b = some o → h'.get? b = some o) → R (.ok (.ret d)) { s with heap := h', toks := tk }) :
    codeAny (model prog w) A (.builtin "min.loop" ⟨[.ref I, .none, .ref S], [(x, d)]⟩) R s := by
  refine codeAny_builtin F.entry_min_loop ?_
  rw [Around.under_plainId F.plain_min_loop _]
  show wpAny _ A.in1 (seqItems? (Value.ref S) >>= _) _ _ s
  refine wpAny_bind (wpAny_seqItems hS rfl ?_)
  show wpAny _ A.in1 (tryCatch (pyNext (Value.ref I)) _ >>= _) _ _ s
  refine wpAny_bind (wpAny_tryCatch (W.done s _ _ st ?_))
  intro h' tk hk
  exact wpAny_bind (wpAny_rule (wpAny_pure (hR h' tk hk)))
end
theorem args_dflt (a v : Value) : argsOk "min" ⟨[a], [(Str.ofString "default", v)]⟩ := by unfold argsOk; kernel_rfl
section
variable {prog : Program} {w : World} {A : Around} {E : Value → Shared → Prop} {s : Shared} {l : Addr} {xs : Array (Int × Tok)}
theorem min_default {Q : Value → Shared → Prop} (hh : A.handled = none) (hl : s.heap.IsList l (intItems xs))
    (h0 : xs.size = 0 → ∀ h' tk, (∀ b o, s.heap.get? b = some o → h'.get? b = some o) → Q .none { s with heap := h', toks := tk })
    (h1 : 0 < xs.size → ∀ v h' tk, (intItems xs)[argBest (fun i j => decide (numAt xs i < numAt xs j)) (xs.size - 1)]? = some v → (∀ b o, s.heap.get? b = some o → h'.get? b = some o) → Q v { s with heap := h', toks := tk }) :
    wpAny (model prog w) A (call (.builtin "min") [.ref l] [(Str.ofString "default", .none)]) Q E s := by
  refine PyProof.Rows.kmk_tree F.kind_min F.plain_min F.entry_min (args_dflt _ _) ?_
  show wpAny _ A.in1 (Builtin.Builtins.bindParams "min" ["key", "default"] 0 ⟨[], [(Str.ofString "default", Value.none)]⟩ >>= _) _ _ s
  refine wpAny_bind (wpAny_of_eq (show Builtin.Builtins.bindParams "min" ["key", "default"] 0 ⟨[], [(Str.ofString "default", Value.none)]⟩ = pure [none, some Value.none] from rfl) ?_)
  refine wpAny_bind (wpAny_pure (wpAny_bind (iter_intList hl ?_)))
  intro s2 es st hfp nlI
  subst es
  refine wpAny_bind (wpAny_newObj_type ?_)
  rw [minLoopName]
  have W := Walks.list (prog := prog) (w := w) (A := A.in1) hh s.heap.objs.size l nlI (intItems xs)
  have nS : (s.heap.push { cls := .type "list_iterator", data := .fields #[.ref l, .int 0 0] }).objs.size ∉ [s.heap.objs.size, l] := fun z => Nat.lt_irrefl _ (hfp _ z)
  have ez : (intItems xs).size = xs.size := by simp [intItems]
  have kept : ∀ h' : Heap, (∀ b o, b ∉ [s.heap.objs.size] → b ≠ (s.heap.push { cls := .type "list_iterator", data := .fields #[.ref l, .int 0 0] }).objs.size →
      ((s.heap.push { cls := .type "list_iterator", data := .fields #[.ref l, .int 0 0] }).push { cls := .type "list", data := .seq #[] 0 }).get? b = some o → h'.get? b = some o) →
      ∀ b o, s.heap.get? b = some o → h'.get? b = some o := fun h' hk => old_kept fun b o nb e => hk b o nb (Nat.ne_of_lt (Heap.lt_size e)) (Heap.get?_push_of_some _ e)
  rcases Nat.eq_zero_or_pos xs.size with hz | hz
  · rw [ez, hz] at W
    exact wpAny_pure ⟨plainId_quiet F.plain_min_loop _, min_none W _ nS (W.frame _ _ _ st fun b _ o e => Heap.get?_push_of_some _ e) (Heap.get?_push_size _ rfl) fun h' tk hk => h0 hz h' tk (kept h' fun b o nb _ e => hk b o nb e)⟩
  · refine wpAny_pure ⟨plainId_quiet F.plain_min_loop _, min_first W _ (CmpOf.ints_lt (numAt xs) fun _ _ => intItems_at) _ nS (by rw [ez]; exact hz) (W.frame _ _ _ st fun b _ o e => Heap.get?_push_of_some _ e) (Heap.get?_push_size _ rfl) fun v h' tk pv' hk => ?_⟩
    rw [ez] at pv'
    exact h1 hz v h' tk pv' (kept h' hk)
end
/-- the least of a list of ints, or nothing -/
def leastV (ns : List Int) : V → Prop := fun v => (ns = [] ∧ v = .non) ∨ ∃ m : Int, m ∈ ns ∧ (∀ y ∈ ns, m ≤ y) ∧ v = .int m
def rMinD (K : PySem.W.Frag) : List V → List V → Hp → VK → Prop := fun vs zs H Q => ∃ (a : Addr) (ns : List Int), vs = [V.ref a] ∧ zs = [V.non] ∧ SqL K H a (ns.map V.int) ∧ ∀ v, leastV ns v → Q v H
theorem cr_minD {X : Cx} (hc : X.calm = true) : CallRK X (.builtin "min") ["default"] (rMinD X.K) := by
  intro pins s σ H vs zs us ws Q I r rz h
  obtain ⟨a, ns, rfl, rfl, hs, q⟩ := h
  obtain ⟨its, rv, hl, _⟩ := I.list hs
  rw [Vals.ref1 r]
  obtain ⟨d, rfl, rd⟩ := vals1 rz
  cases (show d = Value.none from rd)
  have hi := rv.ints
  obtain ⟨xs, e⟩ := hi.allInts.items
  have hn : numsOf (intItems xs).toList = ns := by rw [← e]; exact hi.numsOf
  rw [nums_intItems] at hn
  subst hn
  have hl2 := hl.isList
  rw [e] at hl2
  refine min_default (I.ok.hd hc) hl2 (fun hz h' tk hk => ⟨.non, H, I.kept hk, rfl, q _ (.inl ⟨?_, rfl⟩)⟩) (fun hz v h' tk hv hk => ?_)
  · have : xs.toList.length = 0 := by simpa using hz
    rw [List.length_eq_zero_iff.mp this]
    rfl
  · obtain ⟨t, rfl⟩ := intItems_at hv
    obtain ⟨b1, b2⟩ := argBest_lt (numAt xs) (xs.size - 1)
    refine ⟨.int _, H, I.kept hk, ⟨_, rfl⟩, q _ (.inr ⟨_, ?_, fun y hy => ?_, rfl⟩)⟩
    · rw [numAt_eq]
      exact PySem.getD_mem (by rw [List.length_map, Array.length_toList]; omega)
    · obtain ⟨j, hj, rfl⟩ := mem_getD hy
      rw [List.length_map, Array.length_toList] at hj
      rw [← numAt_eq]
      exact b2 j (by omega)
end RS
/-! ### a list against the empty list; len in a comprehension's block -/
namespace L2
open PySem PySem.Spec PyProof.Rows
section
variable {X : Cx}
/-- a list, held against the empty list -/
def rNilB (K : PySem.W.Frag) (f : Bool → Bool) : R2 := fun x y H Q => ∃ a b xs, x = .ref a ∧ y = .ref b ∧ SqL K H a xs ∧ SqL K H b [] ∧ Q (.bl (f xs.isEmpty)) H
theorem op_eqNil (hu : X.A.units + 64 < cLine) : OpR X (compareOp .Eq) (rNilB X.K id) := by
  intro pins s σ H x y v u Q I rx ry h
  obtain ⟨a, b, xs, rfl, rfl, ha, hb, q⟩ := h
  cases xs with
  | nil => exact op_eqD hu pins s σ H _ _ v u Q I rx ry ⟨.list [], .list [], .lst ha .nil, .lst hb .nil, rfl, rfl, q⟩
  | cons z r =>
    cases rx
    cases ry
    obtain ⟨its, r1, h1, _⟩ := I.list ha
    obtain ⟨its2, r2, h2, _⟩ := I.list hb
    cases r2
    have e1 := r1.length
    refine SeqAt.eq_list_lengthsAt h1.isList h2.isList ?_ (by omega) ⟨.bl _, H, I, rfl, q⟩
    rw [List.size_toArray, ← e1]
    rfl
theorem op_neNil (hu : X.A.units + 64 < cLine) : OpR X (compareOp .NotEq) (rNilB X.K not) := by
  intro pins s σ H x y v u Q I rx ry h
  obtain ⟨a, b, xs, rfl, rfl, ha, hb, q⟩ := h
  cases xs with
  | nil => exact op_neD hu pins s σ H _ _ v u Q I rx ry ⟨.list [], .list [], .lst ha .nil, .lst hb .nil, rfl, rfl, q⟩
  | cons z r =>
    cases rx
    cases ry
    obtain ⟨its, r1, h1, _⟩ := I.list ha
    obtain ⟨its2, r2, h2, _⟩ := I.list hb
    cases r2
    have e1 := r1.length
    refine SeqAt.RcNeAt.lists_lengths h1.isList h2.isList ?_ (by omega) X.prog X.w _ _ ⟨.bl _, H, I, rfl, q⟩
    rw [List.size_toArray, ← e1]
    rfl
def rLenK (K : PySem.W.Frag) : List V → Hp → VK → Prop := fun xs H Q => ∃ p ys, xs = [V.ref p] ∧ (SqL K H p ys ∨ SqT K H p ys) ∧ Q (.int (ys.length : Int)) H
theorem pe_lenK {e : Expr} {te : TE} {p pos : Pos} (K : PySem.W.Frag) (hK : X.K = K) (hg : Gl X "len") (hm : X.mg "len" = none) (ha : PE X e te) (hs : starEach [e] X.env = (false, eval e X.env) :: starEach [] X.env := by rfl) : PE X (.Call (.Name "len" p) [e] [] pos) (tCB (rLenK K) (tCons te tNil)) := by
  subst hK
  exact pe_callB (r := rLenK X.K) call_len_seq hg hm (by decide +kernel) (pa_cons ha pa_nil hs) (he := hs)
end
end L2
namespace RS
open PySem L2 PySem.Spec PyProof.Rows PySem.W
/-! ### max of a list of ints, with the default 0 -/
theorem ints_alike (ns : List Int) : AlikeD (ns.map PyData.int) := by
  refine ⟨⟨fun x hx y hy => ?_, fun x hx => ?_⟩, ?_, fun e he => ?_⟩
  · obtain ⟨p, _, rfl⟩ := List.mem_map.mp hx
    obtain ⟨q, _, rfl⟩ := List.mem_map.mp hy
    rfl
  · obtain ⟨p, _, rfl⟩ := List.mem_map.mp hx
    exact fun z => nomatch z
  · induction ns with
    | nil => decide
    | cons p r ih =>
      show max 0 (PyData.depthAll (r.map PyData.int)) ≤ 60
      omega
  · obtain ⟨p, _, rfl⟩ := List.mem_map.mp he
    rfl
theorem fold_max : ∀ (ns : List Int) (n : Int), ns.foldl max n ∈ n :: ns ∧ ∀ y ∈ n :: ns, y ≤ ns.foldl max n
  | [], n => ⟨List.mem_cons_self .., fun y hy => by rw [List.mem_singleton.mp hy]; exact Int.le_refl _⟩
  | m :: r, n => by
    obtain ⟨h1, h2⟩ := fold_max r (max n m)
    rw [List.foldl_cons]
    refine ⟨?_, fun y hy => ?_⟩
    · rcases List.mem_cons.mp h1 with e | e
      · rw [e]
        rcases Int.le_total n m with z | z
        · rw [Int.max_eq_right z]
          exact List.mem_cons_of_mem _ (List.mem_cons_self ..)
        · rw [Int.max_eq_left z]
          exact List.mem_cons_self ..
      · exact List.mem_cons_of_mem _ (List.mem_cons_of_mem _ e)
    · have h3 := h2 (max n m) (List.mem_cons_self ..)
      rcases List.mem_cons.mp hy with rfl | hy
      · exact Int.le_trans (Int.le_max_left _ _) h3
      · rcases List.mem_cons.mp hy with rfl | hy
        · exact Int.le_trans (Int.le_max_right _ _) h3
        · exact h2 y (List.mem_cons_of_mem _ hy)
def rMaxD0 (K : PySem.W.Frag) : List V → List V → Hp → VK → Prop := fun vs zs H Q => ∃ (a : Addr) (ns : List Int), vs = [V.ref a] ∧ zs = [V.int 0] ∧ SqL K H a (ns.map V.int) ∧ ∀ m, ((ns = [] ∧ m = 0) ∨ (m ∈ ns ∧ ∀ y ∈ ns, y ≤ m)) → Q (.int m) H
theorem cr_maxD0 {X : Cx} (hc : X.calm = true) (hu : X.A.units + 64 < cLine) : CallRK X (.builtin "max") ["default"] (rMaxD0 X.K) := by
  intro pins s σ H vs zs us ws Q I r rz h
  obtain ⟨a, ns, rfl, rfl, hs, q⟩ := h
  obtain ⟨its, rv, hl, _⟩ := I.list hs
  rw [Vals.ref1 r]
  obtain ⟨d, rfl, rd⟩ := vals1 rz
  obtain ⟨t0, rfl⟩ := rd
  obtain ⟨as, hr⟩ := Dp.readsAll I _ _ _ (ints_dp ns) rv
  obtain ⟨hal, hdp, hlay⟩ := ints_alike ns
  refine max_list_default (I.ok.hd hc) hl.isList (xs := ns.map PyData.int) (as := as) (by simpa using hr) hal (by omega) (fun hz h' tk hk => ⟨.int 0, H, I.kept hk, ⟨_, rfl⟩, q 0 (.inl ⟨List.map_eq_nil_iff.mp hz, rfl⟩)⟩) fun y ys i v h' tk bs hds hv hrd hk => ?_
  have hv' : its[i]? = some v := by simpa using hv
  obtain ⟨x, hx, rx⟩ := vals_get rv hv'
  have hd := data_at hr hv' hk hlay hrd
  obtain ⟨n0, hn0, rfl⟩ := map_of hx
  cases ns with
  | nil => cases hn0
  | cons m r2 =>
    have e1 : PyData.int m = y := (List.cons.inj hds).1
    have e2 : r2.map PyData.int = ys := (List.cons.inj hds).2
    subst e1 e2
    rw [maxD_ints, List.getElem?_map, hn0] at hd
    have e3 : n0 = r2.foldl max m := PyData.int.inj (Option.some.inj hd)
    subst e3
    exact ⟨.int _, H, I.kept hk, rx, q _ (.inr (fold_max r2 m))⟩
end RS
namespace RS
open PySem L2
section
variable {P : Program} {w : World} {K : PySem.W.Frag} {mg : Str → Option Value} {base : Heap}
/-! ### most_shared, of a rule without gaps that repeat -/
def MostOf (os : List Int) (PS : List Pr) (most : Nat) (dv : V) : Prop := (PS = [] ∧ most = 0 ∧ dv = .non) ∨ ∃ d0 : Int, dv = .int d0 ∧ 0 < most ∧ (grp os PS d0).length = most ∧ (∀ d, (grp os PS d).length ≤ most) ∧ ∀ d, (grp os PS d).length = most → d0 ≤ d
def spMs3 (C : Addr) : Sp := fun vs H Q _ => ∃ (p g t o : Addr) (gs : List Int) (tl : Tl), vs = [.ref p] ∧ RuleAt C H p g t o gs tl ∧ ((∃ m, tl = .rep m) → Q .non H) ∧
  ∀ q n PS most dv H', (∀ m, tl ≠ .rep m) → H q = none → Same H H' → TellN gs n tl → UpTo n n 0 PS → MostOf (offL gs tl n) PS most dv → H' q = some (.tup [.int (most : Int), dv]) → Q (.ref q) H'
def msN : List Str := ["rule", "groups", "most", "pairs", "difference"]
theorem scMs3 : FnScope msN ["rule"] (defScope s_most_shared) := ⟨rfl, rfl, rfl, by decide +kernel, rfl, by decide +kernel, by decide +kernel⟩
theorem grp_mem {os : List Int} {PS : List Pr} {p : Pr} (h : p ∈ PS) : p ∈ grp os PS (dif os p) := List.mem_filter.mpr ⟨h, decide_eq_true rfl⟩
theorem ok_ms3 {f C fR fT fP : Addr} {fd fdR fdT fdP : FuncData} (F : Fun K "most_shared" "most_shared" s_most_shared f fd) (T : Txt K mg C) (GR : FnOk P w K mg base CX0 1 fR fdR ["self"] (spFRA C)) (bR : Binds K fdR ["self"] []) (mR : Meth K C "first_repeating" fR)
    (GT : FnOk P w K mg base CX0 5 fT fdT ["rule"] (spTl2 C)) (bT : Binds K fdT ["rule"] []) (mT : mg "_telling_offsets" = some (.ref fT)) (kT : PySem.W.keepIn K (.ref fT) = true)
    (GP : FnOk P w K mg base CX0 1 fP fdP ["offsets"] spPd) (bP : Binds K fdP ["offsets"] []) (mP : mg "_pairs_by_difference" = some (.ref fP)) (kP : PySem.W.keepIn K (.ref fP) = true) : FnOk P w K mg base CX0 6 f fd ["rule"] (spMs3 C) := by
  refine F.ok scMs3 (fun vs H Q E h => ?_) (fun cdv A outer s H vs Q E hr h => ?_)
  · obtain ⟨p, g, t, o, gs, tl, rfl, _⟩ := h
    rfl
  · obtain ⟨p, g, t, o, gs, tl, rfl, R, kr, k⟩ := h
    have hr1 := hr.mono (show 1 ≤ 5 by decide)
    have hu := hu_of hr
    refine ⟨_, (pss_cons (ps_if (pt_cmpR op_notN (pe_meth0 (pv 0) T.cl mR GR hr1 bR .nil pass0) pe_non (nomark _)) (pss_one (ps_ret pe_non)) pss_nil) (pss_cons (ps_set (i := 1) scMs3.nd rfl (Or.inr rfl) (pe_call GP hr1 rfl mP kP bP .nil pass0 (pa_cons (pe_call GT hr rfl mT kT bT .nil pass0 (pa_cons (pv 0) pa_nil)) pa_nil))) (pss_cons (ps_set (i := 2) scMs3.nd rfl (Or.inr rfl) (pe_callBK (cr_maxD0 rfl hr.units) (by rfl) T.max (by decide +kernel) (pa_cons (pe_lock (pe_lc (own := [("pairs", 3)]) (g := gName 3) (tt := tYes) rfl scMs3.nd (pi_values (pv 1)) (blkOk_by (own := [("pairs", 3)]) (N := msN) (sc := (defScope s_most_shared)) (by decide +kernel)) (fun _ _ _ _ _ => (pg_name (i := 3) scMs3.nd rfl (Or.inl rfl))) (fun _ _ _ _ _ => pts_nil) (fun _ _ _ _ _ => (pe_lenK K (by rfl) (by rfl) T.len (pv 3))))) pa_nil) (pk_cons pe_int pk_nil))) (pss_one (ps_ret (pe_tup (pa_cons (pv 2) (pa_cons (pe_callBK (cr_minD rfl) (by rfl) T.min (by decide +kernel) (pa_cons (pe_lock (pe_lc (own := [("difference", 4)]) (g := gName 4) rfl scMs3.nd (pi_keys (pv 1)) (blkOk_by (own := [("difference", 4)]) (N := msN) (sc := (defScope s_most_shared)) (by decide +kernel)) (fun _ _ _ _ _ => (pg_name (i := 4) scMs3.nd rfl (Or.inl rfl))) (fun _ _ _ _ _ => pts_one (pt_cmpR op_eq (pe_lenK K (by rfl) (by rfl) T.len (pe_dget hu (pv 1) (pv 4) (fun _ _ => rfl))) (pv 2) (nomark _))) (fun _ _ _ _ _ => (pv 4)))) pa_nil) (pk_cons pe_non pk_nil)) pa_nil)))))))), ?_⟩
    obtain ⟨dx, hob⟩ := R.ob
    refine ⟨_, rfl, p, dx, _, rfl, hob, flds_no _ _ _ (by decide +kernel) (by decide +kernel) (by decide +kernel), p, g, t, o, gs, tl, rfl, R, ?_⟩
    by_cases hrep : ∃ m, tl = .rep m
    · obtain ⟨m, rfl⟩ := hrep
      exact ⟨rfl, _, rfl, iteTb rfl (kr ⟨m, rfl⟩)⟩
    have hnr : ∀ m, tl ≠ .rep m := fun m e => hrep ⟨m, e⟩
    have k := fun q n PS most dv H' => k q n PS most dv H' hnr
    have hfr : frV gs tl = .non := by
      cases tl with
      | rep m => exact absurd rfl (hnr m)
      | fin => rfl
      | times b => rfl
    rw [hfr]
    refine ⟨rfl, _, rfl, iteFb rfl ?_⟩
    have okG := R.okG
    have okT := R.okT
    refine ⟨_, rfl, p, g, t, o, gs, tl, rfl, R, fun q n H1 hq S1 hT hq1 => ?_⟩
    have hn70 := TellN.le70 okG okT hT
    refine ⟨q, offL gs tl n, rfl, hq1, by rw [offL_len]; exact hn70, fun d ks as ad PS H2 hd G => ?_⟩
    rw [offL_len] at G
    have k := fun q PS most dv H' a b => k q n PS most dv H' a b hT
    generalize offL gs tl n = os at G k
    have S02 := S1.trans G.S
    have hdH : H d = none := S1.free hd
    have hPS : PS.length ≤ 5000 := by have := G.lp; omega
    have hks : ks.length ≤ 5000 := Nat.le_trans G.lk hPS
    have hlen : ∀ r, (ad r).length = (grp os PS r).length := fun r => (G.tp r).1
    -- the lengths
    refine ⟨d, .dK (kvsOf ks as), G.D.hd, trivial, fun od => ?_⟩
    have hdL : (upd H2 d (.frz od (.dK (kvsOf ks as)))) d = some (.frz od (.dK (kvsOf ks as))) := upd_same
    have kpL : ∀ b u, b ≠ d → H2 b = some u → (upd H2 d (.frz od (.dK (kvsOf ks as)))) b = some u := fun b u nb e => by rw [upd_ne nb]; exact e
    generalize upd H2 d (.frz od (.dK (kvsOf ks as))) = HL at hdL kpL
    refine ⟨_, rfl, d, od, kvsOf ks as, rfl, hdL, fun D hD => lc_it (walk_values (d := d) (o := od) (kvs := kvsOf ks as)) (fun i H' => Same HL H' ∧ H' D = some (.lst (((ks.take i).map fun r => (((ad r).length : Nat) : Int)).map V.int))) ⟨same_new hD, upd_same⟩ (fun i H' _ z => z.1 _ _ hdL) (fun i x H4 H5 hi z hy => ?_) (fun H5 z => ?_)⟩
    · obtain ⟨S4, hD4⟩ := z
      obtain ⟨rfl, kk, hkk⟩ := hy
      have hik : i < ks.length := by rw [← kvsOf_len G.D.len]; exact hi
      have hri : ks[i]? = some ks[i] := List.getElem?_eq_getElem hik
      have hai : as[i]? = some (as[i]'(by rw [G.D.len]; exact hik)) := List.getElem?_eq_getElem _
      generalize ks[i] = r at hri
      generalize as[i]'(by rw [G.D.len]; exact hik) = a at hai
      have ekk : (kvsOf ks as)[i]? = some ((Sum.inl r : Key), V.ref a) := by
        unfold kvsOf
        rw [List.getElem?_zipWith, hri, hai]
      rw [ekk] at hkk
      cases hkk
      have hla := G.D.ls i r a hri hai
      have nad : a ≠ d := fun z => G.D.nd (z ▸ List.mem_of_getElem? hai)
      have hla4 := S4 _ _ (kpL _ _ nad hla)
      refine ⟨rfl, yes_t (iteT ?_)⟩
      refine ⟨_, rfl, a, _, rfl, .inl (SqL.of hla4), _, hD4, by rw [List.length_map, List.length_map, List.length_take]; exact small_line (by omega), same_app hD S4, ?_⟩
      rw [upd_same, List.take_add_one, hri, List.map_append, List.map_append, List.length_map]
      rfl
    obtain ⟨S5, hD5⟩ := z
    rw [kvsOf_len G.D.len, List.take_length] at hD5
    refine ⟨S5 _ _ hdL, ?_⟩
    have nDd : D ≠ d := fun z => by rw [z, hdL] at hD; cases hD
    have S6 : Same H2 (upd H5 d (.dK (kvsOf ks as))) := fun b u e => by
      by_cases nb : b = d
      · subst nb
        rw [upd_same, ← G.D.hd, e]
      · rw [upd_ne nb]
        exact S5 _ _ (kpL _ _ nb e)
    have hD6 : (upd H5 d (.dK (kvsOf ks as))) D = some (.lst ((ks.map fun r => (((ad r).length : Nat) : Int)).map V.int)) := by rw [upd_ne nDd]; exact hD5
    generalize upd H5 d (.dK (kvsOf ks as)) = H6 at S6 hD6
    clear hD5 S5 hD nDd hdL kpL hq1 HL
    refine ⟨D, _, rfl, rfl, SqL.of hD6, fun m hm => ?_⟩
    -- the greatest
    obtain ⟨most, rfl, hmost⟩ : ∃ most : Nat, m = (most : Int) ∧ ((ks = [] ∧ most = 0) ∨ ((∃ r ∈ ks, (grp os PS r).length = most) ∧ ∀ r ∈ ks, (grp os PS r).length ≤ most)) := by
      rcases hm with ⟨e, rfl⟩ | ⟨hin, hle⟩
      · exact ⟨0, rfl, .inl ⟨List.map_eq_nil_iff.mp e, rfl⟩⟩
      · obtain ⟨r, hr, rfl⟩ := List.mem_map.mp hin
        refine ⟨(ad r).length, rfl, .inr ⟨⟨r, hr, (hlen r).symm⟩, fun r2 hr2 => ?_⟩⟩
        have := hle _ (List.mem_map.mpr ⟨r2, hr2, rfl⟩)
        rw [← hlen]
        omega
    clear hm
    have G6 := G.same S6
    have S06 := S02.trans S6
    clear S6 hD6 G S02
    -- the distances
    refine ⟨_, rfl, d, .dK (kvsOf ks as), G6.D.hd, trivial, fun od2 => ?_⟩
    have hdL : (upd H6 d (.frz od2 (.dK (kvsOf ks as)))) d = some (.frz od2 (.dK (kvsOf ks as))) := upd_same
    have kpL : ∀ b u, b ≠ d → H6 b = some u → (upd H6 d (.frz od2 (.dK (kvsOf ks as)))) b = some u := fun b u nb e => by rw [upd_ne nb]; exact e
    generalize upd H6 d (.frz od2 (.dK (kvsOf ks as))) = HL at hdL kpL
    refine ⟨_, rfl, d, od2, rfl, .inl ⟨kvsOf ks as, hdL, fun D2 hD2 => lc_it (walk_keys (d := d) (o := od2) (kvs := kvsOf ks as)) (fun i H' => Same HL H' ∧ H' D2 = some (.lst (((ks.take i).filter fun r => decide ((grp os PS r).length = most)).map V.int))) ⟨same_new hD2, upd_same⟩ (fun i H' _ q => q.1 _ _ hdL) (fun i x H7 H5 hi q hy => ?_) (fun H7 q => ?_)⟩⟩
    · obtain ⟨S4, hD4⟩ := q
      obtain ⟨rfl, kk, v, hkk, rfl⟩ := hy
      have hik : i < ks.length := by rw [← kvsOf_len G6.D.len]; exact hi
      have hri : ks[i]? = some ks[i] := List.getElem?_eq_getElem hik
      have hai : as[i]? = some (as[i]'(by rw [G6.D.len]; exact hik)) := List.getElem?_eq_getElem _
      generalize ks[i] = r at hri
      generalize as[i]'(by rw [G6.D.len]; exact hik) = a at hai
      have ekk : (kvsOf ks as)[i]? = some ((Sum.inl r : Key), V.ref a) := by
        unfold kvsOf
        rw [List.getElem?_zipWith, hri, hai]
      rw [ekk] at hkk
      cases hkk
      have hla := G6.D.ls i r a hri hai
      have nad : a ≠ d := fun z => G6.D.nd (z ▸ List.mem_of_getElem? hai)
      have hla4 := S4 _ _ (kpL _ _ nad hla)
      have hval := kvsOf_at G6.D.nk hri hai
      refine ⟨rfl, _, rfl, _, rfl, d, .ref a, rfl, .inl ⟨_, Sum.inl r, .inr ⟨od2, S4 _ _ hdL⟩, rfl, hval.symm⟩, a, _, rfl, .inl (SqL.of hla4), _, rfl, rfl, _, rfl, ?_⟩
      rw [List.take_add_one, hri, List.filter_append, List.map_append]
      rw [List.length_map, hlen]
      by_cases h1l : (grp os PS r).length = most
      · refine iteTb (decide_eq_true (by rw [h1l])) ?_
        refine ⟨_, rfl, _, hD4, ?_, same_app hD2 S4, ?_⟩
        · rw [List.length_map]
          have h3 := (List.filter_sublist (p := fun r => decide ((grp os PS r).length = most)) (l := ks.take i)).length_le
          rw [List.length_take] at h3
          exact small_line (by omega)
        · rw [upd_same]
          show _ = some (HO.lst (_ ++ (List.filter _ [r]).map V.int))
          rw [show List.filter (fun r => decide ((grp os PS r).length = most)) [r] = [r] by simp [h1l]]
          rfl
      · refine iteFb (decide_eq_false (fun z => h1l (by have := V.int.inj z; omega))) ⟨S4, ?_⟩
        show _ = some (HO.lst (_ ++ (List.filter _ [r]).map V.int))
        rw [show List.filter (fun r => decide ((grp os PS r).length = most)) [r] = [] by simp [h1l], List.map_nil, List.append_nil]
        exact hD4
    obtain ⟨S4, hD4⟩ := q
    rw [kvsOf_len G6.D.len, List.take_length] at hD4
    refine ⟨S4 _ _ hdL, ?_⟩
    have nDd : D2 ≠ d := fun z => by rw [z, hdL] at hD2; cases hD2
    have S5 : Same H6 (upd H7 d (.dK (kvsOf ks as))) := fun b u e => by
      by_cases nb : b = d
      · subst nb
        rw [upd_same, ← G6.D.hd, e]
      · rw [upd_ne nb]
        exact S4 _ _ (kpL _ _ nb e)
    have hD5 : (upd H7 d (.dK (kvsOf ks as))) D2 = some (.lst ((ks.filter fun r => decide ((grp os PS r).length = most)).map V.int)) := by rw [upd_ne nDd]; exact hD4
    generalize upd H7 d (.dK (kvsOf ks as)) = H8 at S5 hD5
    have S08 := S06.trans S5
    refine ⟨D2, _, rfl, rfl, SqL.of hD5, fun dv hdv => ?_⟩
    refine ⟨(by show 2 ≤ sizeLine; decide), fun u hu2 => ?_⟩
    have out : ∀ r, r ∉ ks → grp os PS r = [] := fun r h => by
      have e1 := List.map_eq_nil_iff.mp (G6.D.out r h)
      have := hlen r
      rw [e1] at this
      exact List.eq_nil_of_length_eq_zero this.symm
    refine k u PS most dv _ (S08.free hu2) (S08.trans (same_new hu2)) G6.up ?_ upd_same
    rcases hmost with ⟨rfl, rfl⟩ | ⟨⟨r0, hr0, hr1⟩, hle⟩
    · refine .inl ⟨?_, rfl, ?_⟩
      · cases PS with
        | nil => rfl
        | cons x r =>
          have := grp_mem (os := os) (List.mem_cons_self (a := x) (l := r))
          rw [out _ (fun h => nomatch h)] at this
          cases this
      · rcases hdv with ⟨_, e⟩ | ⟨m, hm, _⟩
        · exact e
        · cases hm
    · by_cases hz : most = 0
      · subst hz
        refine .inl ⟨?_, rfl, ?_⟩
        · cases PS with
          | nil => rfl
          | cons x r =>
            have h1 := grp_mem (os := os) (List.mem_cons_self (a := x) (l := r))
            by_cases h2 : dif os x ∈ ks
            · have := hle _ h2
              rw [List.eq_nil_of_length_eq_zero (Nat.le_zero.mp this)] at h1
              cases h1
            · rw [out _ h2] at h1
              cases h1
        · exfalso
          -- a key has a pair
          have := G6.kne r0 hr0
          rw [List.eq_nil_of_length_eq_zero hr1] at this
          exact this rfl
      · rcases hdv with ⟨e, _⟩ | ⟨m, hm, hmin, rfl⟩
        · have : r0 ∈ ks.filter fun r => decide ((grp os PS r).length = most) := List.mem_filter.mpr ⟨hr0, decide_eq_true hr1⟩
          rw [e] at this
          cases this
        · obtain ⟨hm1, hm2⟩ := List.mem_filter.mp hm
          refine .inr ⟨m, rfl, Nat.pos_of_ne_zero hz, of_decide_eq_true hm2, fun d2 => ?_, fun d2 hd2 => ?_⟩
          · by_cases h2 : d2 ∈ ks
            · exact hle _ h2
            · rw [out _ h2]
              exact Nat.zero_le _
          · refine hmin d2 (List.mem_filter.mpr ⟨?_, decide_eq_true hd2⟩)
            refine Classical.byContradiction fun h2 => ?_
            rw [out _ h2] at hd2
            exact hz hd2.symm
end
end RS
namespace RS
open PySem L2
theorem rep_of {os : List Int} {L : Nat} {p q : Pr} (hp : InL L p) (hq : InL L q) (ne : p ≠ q) (e : dif os p = dif os q) : ∃ s, RepS os L s := by
  rcases pLt_tri p q with z | z | z
  · exact ⟨(p, q), hp, hq, z, e⟩
  · exact absurd z ne
  · exact ⟨(q, p), hq, hp, z, e.symm⟩
theorem last_ne {L k : Nat} {p : Pr} (h : InL L p) : p ≠ ((k : Int), (L : Int)) := fun e => by
  obtain ⟨i, j, e2, h1, h2⟩ := h
  rw [e2] at e
  have := congrArg Prod.snd e
  have : (j : Int) = (L : Int) := this
  omega
theorem inl_last {L k : Nat} (h : k < L) : InL (L + 1) ((k : Int), (L : Int)) := ⟨k, L, rfl, h, Nat.lt_succ_self _⟩
theorem dif_last {os : List Int} {k L : Nat} : dif os ((k : Int), (L : Int)) = os.getD L 0 - os.getD k 0 := rfl
/-- nothing repeats at one more attempt -/
theorem no_next {os : List Int} {L : Nat} (ha : Asc os) (hL : L < os.length) (h : ∀ s, ¬ RepS os L s) (hk : ∀ k < L, ∀ p, InL L p → dif os p ≠ os.getD L 0 - os.getD k 0) : ∀ s, ¬ RepS os (L + 1) s := by
  rintro ⟨p, q⟩ ⟨hp, hq, hlt, e⟩
  have hp : InL (L + 1) p := hp
  have hq : InL (L + 1) q := hq
  have e : dif os p = dif os q := e
  have hlt : pLt p q := hlt
  rcases last_or hp with hp1 | ⟨k, hk1, rfl⟩
  · rcases last_or hq with hq1 | ⟨k', hk2, rfl⟩
    · exact h (p, q) ⟨hp1, hq1, hlt, e⟩
    · exact hk k' hk2 p hp1 e
  · rcases last_or hq with hq1 | ⟨k', hk2, rfl⟩
    · exact hk k hk1 q hq1 e.symm
    · have := last_inj ha hL hk1 hk2 e
      subst this
      exact pLt_irr _ hlt
theorem no_zero {os : List Int} : ∀ s, ¬ RepS os 0 s := fun s h => by
  obtain ⟨i, j, _, _, h2⟩ := h.1
  omega
section
variable {P : Program} {w : World} {K : PySem.W.Frag} {mg : Str → Option Value} {base : Heap}
/-! ### how many first attempts have a repetition -/
/-- the number of pairs of the first attempts -/
def tri : Nat → Nat
  | 0 => 0
  | n + 1 => tri n + n
theorem tri_mono (i : Nat) : ∀ k, tri i ≤ tri (i + k)
  | 0 => Nat.le_refl _
  | k + 1 => Nat.le_trans (tri_mono i k) (Nat.le_add_right _ _)
theorem tri_le {i : Nat} (h : i ≤ 67) : tri i ≤ 2211 := by
  have := tri_mono i (67 - i)
  rw [show i + (67 - i) = 67 by omega] at this
  exact Nat.le_trans this (by decide)
def FewV (os : List Int) (v : V) : Prop := (v = .non ∧ ∀ s, ¬ RepS os os.length s) ∨ ∃ L : Nat, L < os.length ∧ v = .int ((L : Int) + 1) ∧ (∀ s, ¬ RepS os L s) ∧ ∃ s, RepS os (L + 1) s
def spFw : Sp := fun vs H Q _ => ∃ (q : Addr) (os : List Int), vs = [.ref q] ∧ H q = some (.lst (os.map V.int)) ∧ Asc os ∧ os.length ≤ 67 ∧ ∀ v H', Same H H' → FewV os v → Q v H'
def fwN : List Str := ["offsets", "seen", "position", "offset", "earlier"]
theorem scFw : FnScope fwN ["offsets"] (defScope s_fewest_repeating) := ⟨rfl, rfl, rfl, by decide +kernel, rfl, by decide +kernel, by decide +kernel⟩
theorem getD_of {os : List Int} {i : Nat} {x : Int} (h : os[i]? = some x) : os.getD i 0 = x := by rw [List.getD_eq_getElem?_getD, h]; rfl
theorem ok_fw {f C : Addr} {fd : FuncData} (F : Fun K "_fewest_repeating" "_fewest_repeating" s_fewest_repeating f fd) (T : Txt K mg C) : FnOk P w K mg base CX0 1 f fd ["offsets"] spFw := by
  refine F.ok scFw (fun vs H Q E h => ?_) (fun cdv A outer s H vs Q E hr h => ?_)
  · obtain ⟨q, os, rfl, _⟩ := h
    rfl
  · obtain ⟨q, os, rfl, hq, ha, hl, k⟩ := h
    refine ⟨_, (pss_cons (ps_set (i := 1) scFw.nd rfl (Or.inl rfl) (pe_callTy0 cr_set0K (by rfl) T.set (by decide +kernel))) (pss_cons (ps_for PassesOwn.never rfl (pi_enum (by rfl) T.enum (pa_cons (pv 0) pa_nil)) (pg_tup rfl (pgs_cons (pg_name (i := 2) scFw.nd rfl (Or.inl rfl)) (pgs_cons (pg_name (i := 3) scFw.nd rfl (Or.inl rfl)) pgs_nil))) (pss_one (ps_for PassesOwn.never rfl (pi_list (pe_slice sl_list (pv 0) po_none (po_some (pv 2)))) (pg_name (i := 4) scFw.nd rfl (Or.inl rfl)) (pss_cons (ps_if (pt_cmpR or_sinK (pe_op op_sub (pv 3) (pv 4)) (pv 1) (by rfl)) (pss_one (ps_ret (pe_op op_add (pv 2) pe_int))) pss_nil) (pss_one (ps_expr (pe_saddK (pv 1) (pa_cons (pe_op op_sub (pv 3) (pv 4)) pa_nil)))))))) (pss_one (ps_ret pe_non)))), ?_⟩
    refine ⟨rfl, fun d hd => ?_⟩
    have S0 := same_new (o := SetK P w d (fun _ => false) 0) hd
    have nqd : q ≠ d := ne_of_none hq hd
    refine ⟨_, rfl, q, _, rfl, SqL.of (S0 _ _ hq), for_it (walk_enum (a := q) (xs := os.map V.int)) (fun i σ H' => ∃ (v2 v3 v4 : Option V) (S : Key → Bool) (n : Nat), σ = [some (.ref q), some (.ref d), v2, v3, v4] ∧ Same H H' ∧ H' d = some (SetK P w d S n) ∧ n ≤ tri i ∧ (∀ x : Int, S (Sum.inl x) = true ↔ ∃ p, InL i p ∧ dif os p = x) ∧ ∀ s, ¬ RepS os i s)
      ⟨none, none, none, fun _ => false, 0, rfl, S0, upd_same, Nat.zero_le _, fun x => ⟨(fun z => nomatch z), (fun ⟨p, ⟨i, j, _, _, h2⟩, _⟩ => by omega)⟩, no_zero⟩ (fun i σ H' _ z => let ⟨_, _, _, _, _, _, S, _⟩ := z; SqL.of (S _ _ hq)) ?_ ?_⟩
    · rintro i x σ H1 H2 hi ⟨v2, v3, v4, S, n, rfl, S1, hd1, hn, hS, hno⟩ ⟨T2, x1, y1, rfl, hT, rfl, hx1, hy1⟩
      obtain rfl := Option.some.inj hx1
      rw [List.length_map] at hi
      obtain ⟨y, hy, rfl⟩ := map_of hy1
      have hyg := getD_of hy
      have sT := same_new (o := .tup [V.int (i : Nat), .int y]) hT
      have S2 := S1.trans sT
      have hd2 := sT _ _ hd1
      refine ⟨T2, _, rfl, SqT.of upd_same, rfl, _, _, rfl, _, _, rfl, rfl, ?_⟩
      generalize (upd H1 T2 (.tup [V.int (i : Nat), .int y])) = H2 at S2 hd2 ⊢
      clear sT hT S1 hd1
      refine ⟨_, rfl, _, rfl, _, rfl, q, _, rfl, SqL.of (S2 _ _ hq), fun l hl0 => ?_⟩
      have e1 : cutV (os.map V.int) none (some ((i : Nat) : Int)) = (os.take i).map V.int := by rw [cut_to, ← List.map_take]
      have sl := same_new (o := .lst (cutV (os.map V.int) none (some ((i : Nat) : Int)))) hl0
      have hl1 : (upd H2 l (.lst (cutV (os.map V.int) none (some ((i : Nat) : Int))))) l = some (.lst ((os.take i).map V.int)) := by rw [upd_same, e1]
      have S3 := S2.trans sl
      have hd3 := sl _ _ hd2
      have nld : l ≠ d := (ne_of_none hd2 hl0).symm
      refine ⟨l, rfl, ⟨_, SqL.of hl1⟩, ?_⟩
      generalize (upd H2 l (.lst (cutV (os.map V.int) none (some ((i : Nat) : Int))))) = H3 at hl1 S3 hd3 ⊢
      clear sl S2 hd2 hl0 e1
      refine for_list (a := l) (xs := (os.take i).map V.int) (fun j σ H' => ∃ (v4 : Option V) (S : Key → Bool) (n : Nat), σ = [some (.ref q), some (.ref d), some (.int (i : Nat)), some (.int y), v4] ∧ Kx d H3 H' ∧ H' d = some (SetK P w d S n) ∧ n ≤ tri i + j ∧ (∀ x : Int, S (Sum.inl x) = true ↔ (∃ p, InL i p ∧ dif os p = x) ∨ ∃ k < j, os.getD i 0 - os.getD k 0 = x) ∧ ∀ k < j, ∀ p, InL i p → dif os p ≠ os.getD i 0 - os.getD k 0)
        ⟨v4, S, n, rfl, Kx.refl d H3, hd3, hn, fun x => (hS x).trans ⟨fun z => .inl z, fun z => z.elim id (fun ⟨k, hk, _⟩ => by omega)⟩, fun k hk => by omega⟩ (fun j σ H' _ z => let ⟨_, _, _, _, kx, _⟩ := z; SqL.of (kx _ _ nld hl1)) ?_ ?_
      · rintro j x σ H4 hx ⟨w4, S4_, n4, rfl, kx4, hd4, hn4, hS4, hk4⟩
        obtain ⟨z, hz, rfl⟩ := map_of hx
        have hj := (List.getElem?_eq_some_iff.mp hz).1
        rw [List.length_take] at hj
        rw [List.getElem?_take_of_lt (by omega)] at hz
        have hzg := getD_of hz
        refine ⟨_, rfl, _, rfl, _, _, rfl, rfl, _, rfl, Sum.inl (y - z), d, S4_, n4, rfl, rfl, hd4, ?_⟩
        by_cases hin : S4_ (Sum.inl (y - z)) = true
        · refine ⟨_, rfl, iteTb hin ?_⟩
          refine ⟨_, rfl, _, _, rfl, rfl, ?_⟩
          have S4 : Same H H4 := fun b u e => kx4 b u (ne_of_none e hd) (S3 _ _ e)
          refine k _ H4 S4 (.inr ⟨i, hi, rfl, hno, ?_⟩)
          rcases (hS4 _).mp hin with ⟨p, h1, h2⟩ | ⟨k', h1, h2⟩
          · exact rep_of (h1.mono (Nat.le_succ _)) (inl_last (show j < i by omega)) (last_ne h1) (by rw [h2, dif_last, hyg, hzg])
          · have := ha k' j h1 (by omega)
            rw [hyg] at h2
            omega
        · refine ⟨_, rfl, iteFb (Bool.eq_false_iff.mpr hin) ?_⟩
          refine ⟨_, rfl, ⟨d, S4_, n4, rfl, hd4⟩, _, rfl, _, rfl, _, _, rfl, rfl, d, Sum.inl (y - z), S4_, n4, rfl, rfl, hd4, (by show n4 + 1 < 4096; have := tri_le (i := i) (by omega); omega), ?_⟩
          rw [if_neg hin]
          refine ⟨_, _, n4 + 1, rfl, kx4.trans Kx.upd, upd_same, by omega, fun x => ?_, fun k' hk' p hp => ?_⟩
          · rw [Bool.or_eq_true, hS4 x, decide_eq_true_iff]
            constructor
            · rintro ((h | ⟨k', h1, h2⟩) | h)
              · exact .inl h
              · exact .inr ⟨k', by omega, h2⟩
              · exact .inr ⟨j, by omega, by rw [hyg, hzg]; exact (Sum.inl.inj h).symm⟩
            · rintro (h | ⟨k', h1, h2⟩)
              · exact .inl (.inl h)
              · by_cases hkj : k' < j
                · exact .inl (.inr ⟨k', hkj, h2⟩)
                · have : k' = j := by omega
                  subst this
                  rw [hyg, hzg] at h2
                  exact .inr (by rw [h2])
          · by_cases hkj : k' < j
            · exact hk4 k' hkj p hp
            · have : k' = j := by omega
              subst this
              intro e
              rw [hyg, hzg] at e
              exact hin ((hS4 _).mpr (.inl ⟨p, hp, e⟩))
      · rintro σ H4 ⟨w4, S4_, n4, rfl, kx4, hd4, hn4, hS4, hk4⟩
        rw [List.length_map, List.length_take, Nat.min_eq_left (by omega)] at hn4 hS4 hk4
        refine ⟨_, _, _, S4_, n4, rfl, fun b u e => kx4 b u (ne_of_none e hd) (S3 _ _ e), hd4, (by show n4 ≤ tri i + i; omega), fun x => (hS4 x).trans ⟨?_, ?_⟩, no_next ha hi hno hk4⟩
        · rintro (⟨p, h1, h2⟩ | ⟨k, h1, h2⟩)
          · exact ⟨p, h1.mono (Nat.le_succ _), h2⟩
          · exact ⟨_, inl_last h1, h2⟩
        · rintro ⟨p, h1, h2⟩
          rcases last_or h1 with h3 | ⟨k, h3, rfl⟩
          · exact .inl ⟨p, h3, h2⟩
          · exact .inr ⟨k, h3, h2⟩
    · rintro σ H1 ⟨v2, v3, v4, S, n, rfl, S1, hd1, hn, hS, hno⟩
      rw [List.length_map] at hno
      exact k .non H1 S1 (.inl ⟨rfl, hno⟩)
end
end RS
namespace RS
open PySem L2
/-! ### the least pair of pairs -/
theorem qLt_trans {r s t : Pr × Pr} (h : qLt r s) (h2 : qLt s t) : qLt r t := by
  unfold qLt at *
  rcases h with h | ⟨e, h⟩
  · rcases h2 with h2 | ⟨e2, h2⟩
    · exact .inl (pLt_trans h h2)
    · exact .inl (e2 ▸ h)
  · rcases h2 with h2 | ⟨e2, h2⟩
    · exact .inl (e ▸ h2)
    · exact .inr ⟨e.trans e2, pLt_trans h h2⟩
theorem qLt_irr (r : Pr × Pr) : ¬ qLt r r := fun h => h.elim (pLt_irr _) (fun z => pLt_irr _ z.2)
def quadD (s : Pr × Pr) : PyData := .tuple [pairD s.1, pairD s.2]
theorem pair_eqv (p q : Pr) : PyData.eqv (pairD p) (pairD q) = decide (p = q) := by
  obtain ⟨a, b⟩ := p
  obtain ⟨c, d⟩ := q
  unfold pairD
  simp only [PyData.eqv, PyData.eqvAll]
  by_cases h1 : a = c <;> by_cases h2 : b = d <;> simp [h1, h2]
theorem pair_lt (p q : Pr) : PySem.W.dataLt (pairD p) (pairD q) = decide (p.1 < q.1 ∨ (p.1 = q.1 ∧ p.2 < q.2)) := by unfold pairD; rw [PySem.W.dataLt_ii]
theorem quad_lt (r s : Pr × Pr) : PySem.W.dataLt (quadD r) (quadD s) = true ↔ qLt r s := by
  unfold quadD qLt pLt
  rw [PySem.W.dataLt_pair (by rfl) (by rfl), pair_eqv, pair_eqv, pair_lt, pair_lt]
  by_cases h1 : r.1 = s.1
  · rw [decide_eq_true h1, if_pos rfl]
    by_cases h2 : r.2 = s.2
    · rw [decide_eq_true h2, if_pos rfl, h1, h2]
      constructor
      · intro z
        cases z
      · rintro (z | ⟨_, z⟩) <;> omega
    · rw [decide_eq_false h2, if_neg (by decide), decide_eq_true_iff, h1]
      constructor
      · exact fun z => .inr ⟨rfl, z⟩
      · rintro (z | ⟨_, z⟩)
        · omega
        · exact z
  · rw [decide_eq_false h1, if_neg (by decide), decide_eq_true_iff]
    exact ⟨fun z => .inl z, fun z => z.elim id fun y => absurd y.1 h1⟩
theorem quads_alike (qs : List (Pr × Pr)) : AlikeD (qs.map quadD) := by
  refine ⟨⟨fun x hx y hy => ?_, fun x hx => ?_⟩, ?_, fun e he => ?_⟩
  · obtain ⟨p, _, rfl⟩ := List.mem_map.mp hx
    obtain ⟨q, _, rfl⟩ := List.mem_map.mp hy
    rfl
  · obtain ⟨p, _, rfl⟩ := List.mem_map.mp hx
    exact fun z => nomatch z
  · have : PyData.depthAll (qs.map quadD) ≤ 3 := by
      induction qs with
      | nil => decide
      | cons p r ih =>
        show max _ (PyData.depthAll (r.map quadD)) ≤ 3
        have : (quadD p).depth ≤ 3 := by first | exact Nat.le_of_eq (rfl : (quadD p).depth = 3) | exact Nat.le_of_lt (Nat.lt_succ_of_le (Nat.le_of_eq (rfl : (quadD p).depth = 2)))
        omega
    omega
  · obtain ⟨p, _, rfl⟩ := List.mem_map.mp he
    rfl
theorem minD_quads : ∀ (p : Pr × Pr) (ps : List (Pr × Pr)), ∃ q ∈ p :: ps, PySem.W.minD (quadD p) (ps.map quadD) = quadD q ∧ ∀ x ∈ p :: ps, ¬ qLt x q := by
  intro p ps
  induction ps generalizing p with
  | nil => exact ⟨p, List.mem_cons_self .., rfl, fun x hx => by rw [List.mem_singleton.mp hx]; exact qLt_irr _⟩
  | cons y r ih =>
    by_cases h : qLt y p
    · obtain ⟨q, h1, h2, h3⟩ := ih y
      refine ⟨q, List.mem_cons_of_mem _ h1, ?_, fun x hx => ?_⟩
      · rw [← h2]
        unfold PySem.W.minD
        rw [List.map_cons, List.foldl_cons, if_pos ((quad_lt y p).mpr h)]
      · rcases List.mem_cons.mp hx with rfl | hx
        · exact fun z => h3 y (List.mem_cons_self ..) (qLt_trans h z)
        · exact h3 x hx
    · obtain ⟨q, h1, h2, h3⟩ := ih p
      refine ⟨q, ?_, ?_, fun x hx => ?_⟩
      · rcases List.mem_cons.mp h1 with rfl | h1
        · exact List.mem_cons_self ..
        · exact List.mem_cons_of_mem _ (List.mem_cons_of_mem _ h1)
      · rw [← h2]
        unfold PySem.W.minD
        rw [List.map_cons, List.foldl_cons, if_neg (fun z => h ((quad_lt y p).mp z))]
      · rcases List.mem_cons.mp hx with rfl | hx
        · exact h3 x (List.mem_cons_self ..)
        · rcases List.mem_cons.mp hx with rfl | hx
          · intro z
            rcases qLt_tri p x with a | a | a
            · exact h3 p (List.mem_cons_self ..) (qLt_trans a z)
            · exact h3 p (List.mem_cons_self ..) (a ▸ z)
            · exact h a
          · exact h3 x (List.mem_cons_of_mem _ hx)
/-- tuples of two tuples of two numbers -/
def QuadAt (H : Hp) (r : Addr) (s : Pr × Pr) : Prop := ∃ t1 t2 : Addr, H r = some (.tup [.ref t1, .ref t2]) ∧ H t1 = some (.tup [.int s.1.1, .int s.1.2]) ∧ H t2 = some (.tup [.int s.2.1, .int s.2.2])
def QuadsI (H : Hp) (rs : List Addr) (qs : List (Pr × Pr)) : Prop := rs.length = qs.length ∧ ∀ (j : Nat) (s : Pr × Pr), qs[j]? = some s → ∃ r, rs[j]? = some r ∧ QuadAt H r s
theorem QuadAt.kx {H H' : Hp} {r : Addr} {s : Pr × Pr} (q : QuadAt H r s) (h : ∀ (r : Addr) (xs : List V), H r = some (.tup xs) → H' r = some (.tup xs)) : QuadAt H' r s :=
  let ⟨t1, t2, a, b, c⟩ := q; ⟨t1, t2, h _ _ a, h _ _ b, h _ _ c⟩
theorem QuadAt.dp {K : PySem.W.Frag} {H : Hp} {r : Addr} {s : Pr × Pr} (q : QuadAt H r s) : Dp K H (.ref r) (quadD s) := by
  obtain ⟨t1, t2, a, b, c⟩ := q
  exact .tup (SqT.of a) (.cons (.tup (SqT.of b) (.cons (.int _) (.cons (.int _) .nil))) (.cons (.tup (SqT.of c) (.cons (.int _) (.cons (.int _) .nil))) .nil))
theorem QuadsI.kx {H H' : Hp} {rs : List Addr} {qs : List (Pr × Pr)} (t : QuadsI H rs qs) (h : ∀ (r : Addr) (xs : List V), H r = some (.tup xs) → H' r = some (.tup xs)) : QuadsI H' rs qs :=
  ⟨t.1, fun j p e => let ⟨r, a, b⟩ := t.2 j p e; ⟨r, a, b.kx h⟩⟩
theorem QuadsI.nil {H : Hp} : QuadsI H [] [] := ⟨rfl, fun _ _ e => nomatch e⟩
theorem QuadsI.snoc {H : Hp} {rs : List Addr} {qs : List (Pr × Pr)} {r : Addr} {s : Pr × Pr} (t : QuadsI H rs qs) (h : QuadAt H r s) : QuadsI H (rs ++ [r]) (qs ++ [s]) := by
  refine ⟨by rw [List.length_append, List.length_append, t.1]; rfl, fun j p e => ?_⟩
  by_cases hj : j < qs.length
  · rw [List.getElem?_append_left hj] at e
    obtain ⟨r', e1, e2⟩ := t.2 j p e
    exact ⟨r', by rw [List.getElem?_append_left (by rw [t.1]; exact hj)]; exact e1, e2⟩
  · have hl := (List.getElem?_eq_some_iff.mp e).1
    rw [List.length_append, List.length_singleton] at hl
    have ej : j = qs.length := by omega
    subst ej
    rw [List.getElem?_append_right (Nat.le_refl _), Nat.sub_self] at e
    cases e
    exact ⟨r, by rw [← t.1, List.getElem?_append_right (Nat.le_refl _), Nat.sub_self]; rfl, h⟩
theorem quads_dp {K : PySem.W.Frag} {H : Hp} : ∀ {rs : List Addr} {qs : List (Pr × Pr)}, QuadsI H rs qs → DpAll K H (rs.map V.ref) (qs.map quadD)
  | [], [], _ => .nil
  | [], _ :: _, t => nomatch t.1
  | _ :: _, [], t => nomatch t.1
  | r :: rs, p :: qs, t => by
    obtain ⟨r', e1, e2⟩ := t.2 0 p rfl
    cases (Option.some.inj e1 : r = r')
    exact .cons e2.dp (quads_dp ⟨Nat.succ.inj t.1, fun j q e => t.2 (j + 1) q e⟩)
theorem quadD_inj {r s : Pr × Pr} (h : quadD r = quadD s) : r = s := by
  obtain ⟨⟨a, b⟩, c, d⟩ := r
  obtain ⟨⟨a', b'⟩, c', d'⟩ := s
  unfold quadD pairD at h
  simp only [PyData.tuple.injEq, List.cons.injEq, PyData.int.injEq, and_true] at h
  obtain ⟨⟨h1, h2⟩, h3, h4⟩ := h
  rw [h1, h2, h3, h4]
/-- the first offsets alone -/
theorem dif_take {os : List Int} {L : Nat} {p : Pr} (h : InL L p) : dif (os.take L) p = dif os p := by
  obtain ⟨i, j, rfl, h1, h2⟩ := h
  unfold dif
  simp only [Int.toNat_natCast]
  rw [List.getD_eq_getElem?_getD, List.getD_eq_getElem?_getD, List.getD_eq_getElem?_getD, List.getD_eq_getElem?_getD, List.getElem?_take_of_lt h2, List.getElem?_take_of_lt (by omega)]
end RS
namespace RS
open PySem L2
theorem TellN.le67 {gs : List Int} {tl : Tl} {n : Nat} (okG : GapsOk gs) (okT : TlOk gs.length tl) (B : TellN gs n tl) : n ≤ 67 := by
  have h := okG.1
  cases tl with
  | fin => have : n = gs.length + 1 := B; omega
  | rep m => have : n = gs.length + 2 := B; omega
  | times b => have := Bey.le67 okG okT B; omega
/-- the first two of a group -/
theorem grp_two {os : List Int} {PS : List Pr} {n : Nat} (h : UpTo n n 0 PS) {x y : Pr} (hx : InL n x) (hy : InL n y) (hlt : pLt x y) (e : dif os x = dif os y) : ∃ p q t, grp os PS (dif os x) = p :: q :: t ∧ ¬ qLt (x, y) (p, q) := by
  have hin : ∀ z : Pr, InL n z → z ∈ PS := fun z hz => (h.mem z).mpr ⟨hz, by obtain ⟨i, j, rfl, h1, h2⟩ := hz; exact .inl (by show (i : Int) < (n : Int); omega)⟩
  have hpw : (grp os PS (dif os x)).Pairwise pLt := h.pw.sublist List.filter_sublist
  have hx2 : x ∈ grp os PS (dif os x) := List.mem_filter.mpr ⟨hin x hx, decide_eq_true rfl⟩
  have hy2 : y ∈ grp os PS (dif os x) := List.mem_filter.mpr ⟨hin y hy, decide_eq_true e.symm⟩
  generalize grp os PS (dif os x) = g at hpw hx2 hy2
  match g, hpw, hx2, hy2 with
  | [], _, hx2, _ => cases hx2
  | [p], _, hx2, hy2 =>
    rw [List.mem_singleton.mp hx2, List.mem_singleton.mp hy2] at hlt
    exact absurd hlt (pLt_irr _)
  | p :: q :: t, hpw, hx2, hy2 =>
    refine ⟨p, q, t, rfl, fun z => ?_⟩
    obtain ⟨h1, h2⟩ := List.pairwise_cons.mp hpw
    have hpx : p = x ∨ pLt p x := by
      rcases List.mem_cons.mp hx2 with e | e
      · exact .inl e.symm
      · exact .inr (h1 x e)
    rcases z with z | ⟨e2, z⟩
    · have z : pLt x p := z
      rcases hpx with e | e
      · rw [e] at z
        exact pLt_irr _ z
      · exact pLt_asym e z
    · have e2 : x = p := e2
      have z : pLt y q := z
      subst e2
      rcases List.mem_cons.mp hy2 with e | e
      · rw [e] at hlt
        exact pLt_irr _ hlt
      · rcases List.mem_cons.mp e with e | e
        · rw [e] at z
          exact pLt_irr _ z
        · exact pLt_asym ((List.pairwise_cons.mp h2).1 y e) z
theorem grp_in {os : List Int} {PS : List Pr} {n : Nat} (h : UpTo n n 0 PS) {r : Int} {p q : Pr} {t : List Pr} (e : grp os PS r = p :: q :: t) : RepS os n (p, q) := by
  have hp : p ∈ grp os PS r := by rw [e]; exact List.mem_cons_self ..
  have hq : q ∈ grp os PS r := by rw [e]; exact List.mem_cons_of_mem _ (List.mem_cons_self ..)
  have hpw : (grp os PS r).Pairwise pLt := h.pw.sublist List.filter_sublist
  rw [e] at hpw
  obtain ⟨p1, p2⟩ := List.mem_filter.mp hp
  obtain ⟨q1, q2⟩ := List.mem_filter.mp hq
  exact ⟨((h.mem p).mp p1).1, ((h.mem q).mp q1).1, (List.pairwise_cons.mp hpw).1 q (List.mem_cons_self ..), (of_decide_eq_true p2).trans (of_decide_eq_true q2).symm⟩
theorem rep_take {os : List Int} {L : Nat} {s : Pr × Pr} : RepS (os.take L) L s ↔ RepS os L s := by
  constructor
  · rintro ⟨a, b, c, d⟩
    exact ⟨a, b, c, by rw [dif_take a, dif_take b] at d; exact d⟩
  · rintro ⟨a, b, c, d⟩
    exact ⟨a, b, c, by rw [dif_take a, dif_take b]; exact d⟩
section
variable {P : Program} {w : World} {K : PySem.W.Frag} {mg : Str → Option Value} {base : Heap}
/-! ### first_repetition, is_spread -/
def QuadV (H : Hp) : Option (Pr × Pr) → V → Prop
  | none, v => v = .non
  | some s, v => ∃ r, v = .ref r ∧ QuadAt H r s
def spFp2 (C : Addr) : Sp := fun vs H Q _ => ∃ (p g t o : Addr) (gs : List Int) (tl : Tl), vs = [.ref p] ∧ RuleAt C H p g t o gs tl ∧ ∀ n r v H', TellN gs n tl → LeastR (offL gs tl n) r → Same H H' → QuadV H' r v → Q v H'
def fpN : List Str := ["rule", "offsets", "many", "groups", "pairs"]
theorem scFp : FnScope fpN ["rule"] (defScope s_first_repetition) := ⟨rfl, rfl, rfl, by decide +kernel, rfl, by decide +kernel, by decide +kernel⟩
theorem ok_fp {f C fT fF fG : Addr} {fd fdT fdF fdG : FuncData} (F : Fun K "first_repetition" "first_repetition" s_first_repetition f fd) (T : Txt K mg C)
    (GT : FnOk P w K mg base CX0 5 fT fdT ["rule"] (spTl2 C)) (bT : Binds K fdT ["rule"] []) (mT : mg "_telling_offsets" = some (.ref fT)) (kT : PySem.W.keepIn K (.ref fT) = true)
    (GF : FnOk P w K mg base CX0 1 fF fdF ["offsets"] spFw) (bF : Binds K fdF ["offsets"] []) (mF : mg "_fewest_repeating" = some (.ref fF)) (kF : PySem.W.keepIn K (.ref fF) = true)
    (GG : FnOk P w K mg base CX0 1 fG fdG ["offsets"] spPd) (bG : Binds K fdG ["offsets"] []) (mG : mg "_pairs_by_difference" = some (.ref fG)) (kG : PySem.W.keepIn K (.ref fG) = true) :
    FnOk P w K mg base CX0 6 f fd ["rule"] (spFp2 C) := by
  refine F.ok scFp (fun vs H Q E h => ?_) (fun cdv A outer s H vs Q E hr h => ?_)
  · obtain ⟨p, g, t, o, gs, tl, rfl, _⟩ := h
    rfl
  · obtain ⟨p, g, t, o, gs, tl, rfl, R, k⟩ := h
    have hr1 := hr.mono (show 1 ≤ 5 by decide)
    refine ⟨_, (pss_cons (ps_set (i := 1) scFp.nd rfl (Or.inl rfl) (pe_call GT hr rfl mT kT bT .nil pass0 (pa_cons (pv 0) pa_nil))) (pss_cons (ps_set (i := 2) scFp.nd rfl (Or.inl rfl) (pe_call GF hr1 rfl mF kF bF .nil pass0 (pa_cons (pv 1) pa_nil))) (pss_cons (ps_if (pt_cmpR op_isN (pv 2) pe_non (nomark _)) (pss_one (ps_ret pe_non)) pss_nil) (pss_cons (ps_set (i := 3) scFp.nd rfl (Or.inl rfl) (pe_call GG hr1 rfl mG kG bG .nil pass0 (pa_cons (pe_slice sl_list (pv 1) po_none (po_some (pv 2))) pa_nil))) (pss_one (ps_ret (pe_callB (cr_minL rfl hr.units) (by rfl) T.min (by decide +kernel) (pa_cons (pe_lock (pe_lc (own := [("pairs", 4)]) (g := gName 4) rfl scFp.nd (pi_values (pv 3)) (blkOk_by (own := [("pairs", 4)]) (N := fpN) (sc := defScope s_first_repetition) (by decide +kernel)) (fun _ _ _ _ _ => (pg_name (i := 4) scFp.nd rfl (Or.inl rfl))) (fun _ _ _ _ _ => pts_one (pt_cmpR op_gt (pe_lenK K (by rfl) (by rfl) T.len (pv 4)) pe_int (nomark _))) (fun _ _ _ _ _ => (pe_tup (pa_cons (pe_ixK K (by rfl) (pv 4) pe_int) (pa_cons (pe_ixK K (by rfl) (pv 4) pe_int) pa_nil)))))) pa_nil)))))))), ?_⟩
    have okG := R.okG
    have okT := R.okT
    refine ⟨_, rfl, p, g, t, o, gs, tl, rfl, R, fun q n H1 hq S1 hT hq1 => ?_⟩
    have hasc : Asc (offL gs tl n) := asc_any okG okT (fun e => by subst e; exact Nat.le_of_eq hT)
    have hlen : (offL gs tl n).length ≤ 67 := by
      rw [offL_len]
      exact TellN.le67 okG okT hT
    have k := fun r v H' => k n r v H' hT
    generalize offL gs tl n = os at hq1 hasc hlen k
    refine ⟨_, rfl, q, os, rfl, hq1, hasc, hlen, fun v H2 S2 hv => ?_⟩
    have S02 := S1.trans S2
    have hq2 := S2 _ _ hq1
    rcases hv with ⟨rfl, hno⟩ | ⟨L, hL, rfl, hno, hex⟩
    · refine ⟨_, rfl, rfl, _, rfl, iteTb rfl ?_⟩
      exact k none .non H2 hno S02 rfl
    refine ⟨_, rfl, rfl, _, rfl, iteFb rfl ?_⟩
    -- the groups
    refine ⟨_, rfl, _, rfl, _, rfl, q, _, rfl, SqL.of hq2, fun l hl => ?_⟩
    have e1 : cutV (os.map V.int) none (some ((L : Int) + 1)) = (os.take (L + 1)).map V.int := by
      rw [show (L : Int) + 1 = ((L + 1 : Nat) : Int) by omega, cut_to, ← List.map_take]
    have Sl := same_new (o := .lst (cutV (os.map V.int) none (some ((L : Int) + 1)))) hl
    have hl3 : (upd H2 l (.lst (cutV (os.map V.int) none (some ((L : Int) + 1))))) l = some (.lst ((os.take (L + 1)).map V.int)) := by rw [upd_same, e1]
    have S03 := S02.trans Sl
    generalize (upd H2 l (.lst (cutV (os.map V.int) none (some ((L : Int) + 1))))) = H3 at hl3 S03
    have hol : (os.take (L + 1)).length = L + 1 := by rw [List.length_take]; omega
    refine ⟨l, os.take (L + 1), rfl, hl3, by rw [hol]; omega, fun d ks as ad PS H4 hd G => ?_⟩
    rw [hol] at G
    have S04 := S03.trans G.S
    have hdH : H d = none := S03.free hd
    clear Sl hl3 e1 hq2 S02
    have hPS : PS.length ≤ 5000 := by have := G.lp; omega
    have hks : ks.length ≤ 5000 := Nat.le_trans G.lk hPS
    -- the two first of each group
    refine ⟨d, .dK (kvsOf ks as), G.D.hd, trivial, fun od => ?_⟩
    have hdL : (upd H4 d (.frz od (.dK (kvsOf ks as)))) d = some (.frz od (.dK (kvsOf ks as))) := upd_same
    have kpL : ∀ b u, b ≠ d → H4 b = some u → (upd H4 d (.frz od (.dK (kvsOf ks as)))) b = some u := fun b u nb e => by rw [upd_ne nb]; exact e
    generalize upd H4 d (.frz od (.dK (kvsOf ks as))) = HL at hdL kpL
    refine ⟨_, rfl, d, od, kvsOf ks as, rfl, hdL, fun D hD => lc_it (walk_values (d := d) (o := od) (kvs := kvsOf ks as)) (fun i H' => Same HL H' ∧ ∃ rs qs, H' D = some (.lst (rs.map V.ref)) ∧ QuadsI H' rs qs ∧ rs.length ≤ i ∧ (∀ s ∈ qs, RepS os (L + 1) s) ∧ ∀ j < i, ∀ r p q t, ks[j]? = some r → grp (os.take (L + 1)) PS r = p :: q :: t → (p, q) ∈ qs)
      ⟨same_new hD, [], [], upd_same, QuadsI.nil, Nat.le_refl _, (fun s h => nomatch h), fun j h => absurd h (by omega)⟩ (fun i H' _ z => z.1 _ _ hdL) (fun i x H7 H5 hi z hy => ?_) (fun H5 z => ?_)⟩
    · obtain ⟨S5, rs, qs, hD5, tp5, hrl, hin, hall⟩ := z
      obtain ⟨rfl, kk, hkk⟩ := hy
      have hik : i < ks.length := by rw [← kvsOf_len G.D.len]; exact hi
      have hri : ks[i]? = some ks[i] := List.getElem?_eq_getElem hik
      have hai : as[i]? = some (as[i]'(by rw [G.D.len]; exact hik)) := List.getElem?_eq_getElem _
      generalize ks[i] = r at hri
      generalize as[i]'(by rw [G.D.len]; exact hik) = a at hai
      have ekk : (kvsOf ks as)[i]? = some ((Sum.inl r : Key), V.ref a) := by
        unfold kvsOf
        rw [List.getElem?_zipWith, hri, hai]
      rw [ekk] at hkk
      cases hkk
      have hla := G.D.ls i r a hri hai
      have nad : a ≠ d := fun z => G.D.nd (z ▸ List.mem_of_getElem? hai)
      have hla5 := S5 _ _ (kpL _ _ nad hla)
      have htp := G.tp r
      refine ⟨rfl, _, rfl, a, _, rfl, .inl (SqL.of hla5), _, _, rfl, rfl, _, rfl, ?_⟩
      have hlr := htp.1
      have nk : ∀ (b : Addr) (xs : List V), H4 b = some (.tup xs) → H5 b = some (.tup xs) := fun b xs e => S5 _ _ (kpL _ _ (ne_of e G.D.hd (by intro z; cases z)) e)
      by_cases h2 : 2 ≤ (ad r).length
      · refine iteTb (decide_eq_true (by rw [List.length_map]; omega)) ?_
        obtain ⟨p1, q1, t1, hg⟩ : ∃ p1 q1 t1, grp (os.take (L + 1)) PS r = p1 :: q1 :: t1 := by
          rw [hlr] at h2
          match grp (os.take (L + 1)) PS r, h2 with
          | [], h2 => exact absurd h2 (by decide)
          | [_], h2 => exact absurd (Nat.le_of_succ_le_succ h2) (Nat.not_succ_le_zero 0)
          | p1 :: q1 :: t1, _ => exact ⟨p1, q1, t1, rfl⟩
        obtain ⟨x1, ex1, hx1⟩ := htp.2 0 p1 (by rw [hg]; rfl)
        obtain ⟨x2, ex2, hx2⟩ := htp.2 1 q1 (by rw [hg]; rfl)
        refine ⟨_, rfl, a, _, _, .ref x1, rfl, rfl, SqL.of hla5, atI_nat (j := 0) (by rw [List.getElem?_map, ex1]; rfl), _, rfl, a, _, _, .ref x2, rfl, rfl, SqL.of hla5, atI_nat (j := 1) (by rw [List.getElem?_map, ex2]; rfl), (by show 2 ≤ sizeLine; decide), fun u hu => ?_⟩
        have Su := same_new (o := .tup [.ref x1, .ref x2]) hu
        have hq6 : QuadAt (upd H5 u (.tup [.ref x1, .ref x2])) u (p1, q1) := ⟨x1, x2, upd_same, Su _ _ (nk _ _ hx1), Su _ _ (nk _ _ hx2)⟩
        have hD6 := Su _ _ hD5
        have S6 := S5.trans Su
        have tp6 := tp5.kx fun y xs e => Su _ _ e
        generalize upd H5 u (.tup [.ref x1, .ref x2]) = H6 at hq6 hD6 S6 tp6
        have nt : ∀ (y : Addr) (xs : List V), H6 y = some (.tup xs) → upd H6 D (.lst (rs.map V.ref ++ [V.ref u])) y = some (.tup xs) := fun y xs e => by
          rw [upd_ne (ne_of e hD6 (by intro z; cases z))]
          exact e
        refine ⟨_, hD6, by rw [List.length_map]; exact small_line (by omega), same_app hD S6, rs ++ [u], qs ++ [(p1, q1)], by rw [upd_same, List.map_append]; rfl, (tp6.kx nt).snoc (hq6.kx nt), by rw [List.length_append, List.length_singleton]; omega, fun s hs => ?_, fun j hj r' p' q' t' e1 e2 => ?_⟩
        · rcases List.mem_append.mp hs with h | h
          · exact hin s h
          · rw [List.mem_singleton.mp h]
            exact rep_take.mp (grp_in G.up hg)
        · by_cases hji : j < i
          · exact List.mem_append_left _ (hall j hji r' p' q' t' e1 e2)
          · have : j = i := by omega
            subst this
            rw [hri] at e1
            cases e1
            rw [hg] at e2
            cases e2
            exact List.mem_append_right _ (List.mem_singleton.mpr rfl)
      · refine iteFb (decide_eq_false (by rw [List.length_map]; omega)) ⟨S5, rs, qs, hD5, tp5, by omega, hin, fun j hj r' p' q' t' e1 e2 => ?_⟩
        by_cases hji : j < i
        · exact hall j hji r' p' q' t' e1 e2
        · have : j = i := by omega
          subst this
          rw [hri] at e1
          cases e1
          rw [hlr, e2] at h2
          exact absurd (Nat.le_add_left 2 _) h2
    · obtain ⟨S5, rs, qs, hD5, tp5, hrl, hin, hall⟩ := z
      rw [kvsOf_len G.D.len] at hrl hall
      refine ⟨S5 _ _ hdL, ?_⟩
      have nDd : D ≠ d := fun z => by rw [z, hdL] at hD; cases hD
      have S6 : Same H (upd H5 d (.dK (kvsOf ks as))) := fun b u e => by
        have nb : b ≠ d := ne_of_none e hdH
        rw [upd_ne nb]
        exact S5 _ _ (kpL _ _ nb (S04 _ _ e))
      have hD6 : (upd H5 d (.dK (kvsOf ks as))) D = some (.lst (rs.map V.ref)) := by rw [upd_ne nDd]; exact hD5
      have tp6 : QuadsI (upd H5 d (.dK (kvsOf ks as))) rs qs := tp5.kx fun y xs e => by
        rw [upd_ne (ne_of e (S5 _ _ hdL) (by intro z; cases z))]
        exact e
      generalize upd H5 d (.dK (kvsOf ks as)) = H6 at S6 hD6 tp6
      -- each repetition is not less than one of these
      have hback : ∀ s, RepS os (L + 1) s → ∃ m ∈ qs, ¬ qLt s m := fun s hs => by
        obtain ⟨h1, h2, h3, h4⟩ := rep_take.mpr hs
        obtain ⟨p1, q1, t1, hg, hle⟩ := grp_two G.up h1 h2 h3 h4
        have hrk : dif (os.take (L + 1)) s.1 ∈ ks := Classical.byContradiction fun hn => by
          have e1 := List.map_eq_nil_iff.mp (G.D.out _ hn)
          have e2 := (G.tp (dif (os.take (L + 1)) s.1)).1
          rw [e1, hg] at e2
          cases e2
        obtain ⟨j, hj⟩ := List.mem_iff_getElem?.mp hrk
        exact ⟨(p1, q1), hall j (List.getElem?_eq_some_iff.mp hj).1 _ p1 q1 t1 hj hg, hle⟩
      cases qs with
      | nil =>
        obtain ⟨s, hs⟩ := hex
        obtain ⟨m, hm, _⟩ := hback s hs
        cases hm
      | cons s0 r0 =>
        refine ⟨D, _, quadD s0, r0.map quadD, rfl, SqL.of hD6, quads_dp tp6, quads_alike (s0 :: r0), fun i x hx hd9 => ?_⟩
        obtain ⟨m, hm, hmin, hleast⟩ := minD_quads s0 r0
        rw [List.getElem?_map] at hx
        cases e : rs[i]? with
        | none => rw [e] at hx; cases hx
        | some u =>
          rw [e] at hx
          cases hx
          have hi := (List.getElem?_eq_some_iff.mp e).1
          have hq9 : (s0 :: r0)[i]? = some ((s0 :: r0)[i]'(by rw [← tp6.1]; exact hi)) := List.getElem?_eq_getElem _
          generalize (s0 :: r0)[i]'(by rw [← tp6.1]; exact hi) = s9 at hq9
          obtain ⟨u', eu, hu⟩ := tp6.2 i s9 hq9
          rw [e] at eu
          cases eu
          have h1 : ((s0 :: r0).map quadD)[i]? = some (quadD s9) := by rw [List.getElem?_map, hq9]; rfl
          have h2 : ((s0 :: r0).map quadD)[i]? = some (PySem.W.minD (quadD s0) (r0.map quadD)) := hd9
          rw [hmin, h1] at h2
          have e9 := quadD_inj (Option.some.inj h2)
          subst e9
          refine k (some s9) (.ref u) H6 ⟨L, hL, hno, hin s9 hm, fun s hs z => ?_⟩ S6 ⟨u, rfl, hu⟩
          obtain ⟨m2, hm2, hn2⟩ := hback s hs
          rcases qLt_tri s m2 with a | a | a
          · exact hn2 a
          · exact hleast m2 hm2 (a ▸ z)
          · exact hleast m2 hm2 (qLt_trans a z)
end
end RS
namespace RS
open PySem L2
section
variable {P : Program} {w : World} {K : PySem.W.Frag} {mg : Str → Option Value} {base : Heap}
/-! ### is_spread, of any tail -/
def spSd2 (C : Addr) : Sp := fun vs H Q _ => ∃ (p g t o : Addr) (gs : List Int) (tl : Tl), vs = [.ref p] ∧ RuleAt C H p g t o gs tl ∧ ∀ n r H', TellN gs n tl → LeastR (offL gs tl n) r → Same H H' → Q (.bl r.isNone) H'
theorem scSd : FnScope ["rule"] ["rule"] (defScope s_is_spread) := ⟨rfl, rfl, rfl, by decide +kernel, rfl, by decide +kernel, by decide +kernel⟩
theorem ok_sd2 {f C fF : Addr} {fd fdF : FuncData} (F : Fun K "is_spread" "is_spread" s_is_spread f fd) (T : Txt K mg C)
    (GF : FnOk P w K mg base CX0 6 fF fdF ["rule"] (spFp2 C)) (bF : Binds K fdF ["rule"] []) (mF : mg "first_repetition" = some (.ref fF)) (kF : PySem.W.keepIn K (.ref fF) = true) :
    FnOk P w K mg base CX0 7 f fd ["rule"] (spSd2 C) := by
  refine F.ok scSd (fun vs H Q E h => ?_) (fun cdv A outer s H vs Q E hr h => ?_)
  · obtain ⟨p, g, t, o, gs, tl, rfl, _⟩ := h
    rfl
  · obtain ⟨p, g, t, o, gs, tl, rfl, R, k⟩ := h
    refine ⟨_, (pss_one (ps_ret (pe_cmpR op_isN (pe_call GF hr rfl mF kF bF .nil pass0 (pa_cons (pv 0) pa_nil)) pe_non (nomark _)))), ?_⟩
    refine ⟨_, rfl, p, g, t, o, gs, tl, rfl, R, fun n r v H1 hT hL S1 hv => ?_⟩
    cases r with
    | none =>
      cases (show v = .non from hv)
      exact ⟨rfl, k n none H1 hT hL S1⟩
    | some s =>
      obtain ⟨x, rfl, _⟩ := hv
      exact ⟨rfl, k n (some s) H1 hT hL S1⟩
end
end RS
namespace RS
open PySem L2
/-! ### the attempts in which two clients share a slot, without gaps that repeat: the mathematics -/
/-- for each of the first i attempts the first attempt that lies a distance later -/
structure RchF (os : List Int) (d : Int) (i : Nat) (fs : List (Nat × Nat)) : Prop where
  inn : ∀ f ∈ fs, f.2 < i ∧ f.1 < os.length ∧ d + os.getD f.2 0 ≤ os.getD f.1 0 ∧ ∀ k < f.1, os.getD k 0 < d + os.getD f.2 0
  srt : fs.Pairwise (fun f g => f.2 < g.2)
  all : ∀ l < i, ∀ e < os.length, d + os.getD l 0 ≤ os.getD e 0 → ∃ e', (e', l) ∈ fs
def toPr (f : Nat × Nat) : Pr := ((f.1 : Int), (f.2 : Int))
/-- those that lie just the distance later -/
def selR (os : List Int) (d : Int) (fs : List (Nat × Nat)) : List Pr := (fs.filter fun f => decide (os.getD f.1 0 - os.getD f.2 0 = d)).map toPr
theorem selR_snoc (os : List Int) (d : Int) (fs : List (Nat × Nat)) (f : Nat × Nat) : selR os d (fs ++ [f]) = if os.getD f.1 0 - os.getD f.2 0 = d then selR os d fs ++ [toPr f] else selR os d fs := by
  unfold selR
  rw [List.filter_append, List.map_append, List.filter_cons]
  by_cases h : os.getD f.1 0 - os.getD f.2 0 = d
  · rw [if_pos h, if_pos (decide_eq_true h)]
    rfl
  · rw [if_neg h, if_neg (by rw [decide_eq_false h]; decide)]
    simp
/-- all pairs of attempts at a distance, by the second -/
structure SharedL (gs : List Int) (tl : Tl) (d : Int) (ps : List Pr) : Prop where
  mem : ∀ p ∈ ps, ∃ i j : Nat, p = ((i : Int), (j : Int)) ∧ j < i ∧ (tl = .fin → i ≤ gs.length) ∧ off gs tl i - off gs tl j = d
  all : ∀ i j : Nat, j < i → (tl = .fin → i ≤ gs.length) → off gs tl i - off gs tl j = d → ((i : Int), (j : Int)) ∈ ps
  srt : ps.Pairwise (fun p q => p.2 < q.2)
theorem pw_ext {α : Type} {r : α → α → Prop} (irr : ∀ x, ¬ r x x) (asym : ∀ x y, r x y → ¬ r y x) : ∀ {l m : List α}, l.Pairwise r → m.Pairwise r → (∀ x, x ∈ l ↔ x ∈ m) → l = m
  | [], [], _, _, _ => rfl
  | [], y :: m, _, _, h => nomatch (h y).mpr (List.mem_cons_self ..)
  | x :: l, [], _, _, h => nomatch (h x).mp (List.mem_cons_self ..)
  | x :: l, y :: m, hl, hm, h => by
    obtain ⟨hl1, hl2⟩ := List.pairwise_cons.mp hl
    obtain ⟨hm1, hm2⟩ := List.pairwise_cons.mp hm
    have e : x = y := by
      rcases List.mem_cons.mp ((h x).mp (List.mem_cons_self ..)) with z | z
      · exact z
      · rcases List.mem_cons.mp ((h y).mpr (List.mem_cons_self ..)) with z2 | z2
        · exact z2.symm
        · exact absurd (hm1 x z) (asym _ _ (hl1 y z2))
    subst e
    congr 1
    refine pw_ext irr asym hl2 hm2 fun z => ⟨fun hz => ?_, fun hz => ?_⟩
    · rcases List.mem_cons.mp ((h z).mp (List.mem_cons_of_mem _ hz)) with e | e
      · rw [e] at hz
        exact absurd (hl1 x hz) (irr x)
      · exact e
    · rcases List.mem_cons.mp ((h z).mpr (List.mem_cons_of_mem _ hz)) with e | e
      · rw [e] at hz
        exact absurd (hm1 x hz) (irr x)
      · exact e
theorem SharedL.one {gs : List Int} {tl : Tl} {d : Int} {ps qs : List Pr} (h : SharedL gs tl d ps) (g : SharedL gs tl d qs) : ps = qs := by
  refine pw_ext (r := fun p q : Pr => p.2 < q.2) (fun x => by omega) (fun x y => by omega) h.srt g.srt fun x => ⟨fun hx => ?_, fun hx => ?_⟩
  · obtain ⟨i, j, rfl, h0, h1, h2⟩ := h.mem x hx
    exact g.all i j h0 h1 h2
  · obtain ⟨i, j, rfl, h0, h1, h2⟩ := g.mem x hx
    exact h.all i j h0 h1 h2
theorem BeyT.pos {gs : List Int} {reach : Int} {n : Nat} {tl : Tl} (B : BeyT gs reach n tl) : gs.length + 1 ≤ n := by
  cases tl with
  | times b => have := Bey.lo B; omega
  | fin => exact Nat.le_of_eq (Eq.symm B)
  | rep m => exact Nat.le_of_eq (Eq.symm B)
theorem off_le_iff {gs : List Int} {tl : Tl} (okG : GapsOk gs) (okT : TlOk gs.length tl) {i j : Nat} (hi : tl = .fin → i ≤ gs.length) (hj : tl = .fin → j ≤ gs.length) : off gs tl i < off gs tl j ↔ i < j := by
  constructor
  · intro h
    rcases Nat.lt_trichotomy i j with z | z | z
    · exact z
    · subst z; omega
    · have := off_lt okG okT z hi; omega
  · intro h
    exact off_lt okG okT h hj
theorem shared_of {gs : List Int} {tl : Tl} (okG : GapsOk gs) (okT : TlOk gs.length tl) (hnr : ∀ m, tl ≠ .rep m) {d : Int} (hd : 1 ≤ d) {n : Nat} (B : BeyT gs d n tl) {fs : List (Nat × Nat)} (h : RchF (offL gs tl n) d n fs) : SharedL gs tl d (selR (offL gs tl n) d fs) := by
  have hl := h.inn
  have hall := h.all
  rw [offL_len] at hl hall
  have fin : ∀ {k : Nat}, k < n → tl = .fin → k ≤ gs.length := fun {k} hk e => by
    subst e
    have : n = gs.length + 1 := B
    omega
  have od : ∀ {k : Nat}, k < n → (offL gs tl n).getD k 0 = off gs tl k := fun hk => offL_getD _ _ hk
  refine ⟨fun p hp => ?_, fun i j hij hi e => ?_, ?_⟩
  · obtain ⟨f, hf, rfl⟩ := List.mem_map.mp hp
    obtain ⟨hf1, hf2⟩ := List.mem_filter.mp hf
    obtain ⟨a1, a2, a3, a4⟩ := hl f hf1
    have hf2 := of_decide_eq_true hf2
    rw [od a2, od a1] at hf2
    refine ⟨f.1, f.2, rfl, ?_, fin a2, hf2⟩
    refine (off_le_iff okG okT (fin a1) (fin a2)).mp ?_
    omega
  · have hin : i < n := by
      rcases Nat.lt_or_ge i n with z | z
      · exact z
      · exfalso
        cases tl with
        | fin =>
          have h1 := hi rfl
          have : n = gs.length + 1 := B
          omega
        | rep m => exact hnr m rfl
        | times b =>
          have := Bey.far okG okT B z hij
          omega
    have hjn : j < n := by omega
    obtain ⟨e', he'⟩ := hall j hjn i hin (by rw [od hjn, od hin]; omega)
    obtain ⟨a1, a2, a3, a4⟩ := hl _ he'
    have a2 : e' < n := a2
    have a3 : d + (offL gs tl n).getD j 0 ≤ (offL gs tl n).getD e' 0 := a3
    have a4 : ∀ k < e', (offL gs tl n).getD k 0 < d + (offL gs tl n).getD j 0 := a4
    rw [od hjn, od a2] at a3
    have ee : e' = i := by
      rcases Nat.lt_trichotomy e' i with z | z | z
      · have := (off_le_iff okG okT (fin a2) (fin hin)).mpr z
        omega
      · exact z
      · have := a4 i z
        rw [od hin, od hjn] at this
        omega
    subst ee
    refine List.mem_map.mpr ⟨(e', j), List.mem_filter.mpr ⟨he', decide_eq_true ?_⟩, rfl⟩
    show (offL gs tl n).getD e' 0 - (offL gs tl n).getD j 0 = d
    rw [od hjn, od a2]
    exact e
  · unfold selR
    refine List.pairwise_map.mpr ((h.srt.sublist List.filter_sublist).imp ?_)
    intro x y hxy
    show (x.2 : Int) < (y.2 : Int)
    omega
/-- the first ones ascend, too -/
theorem SharedL.fst {gs : List Int} {tl : Tl} (okG : GapsOk gs) (okT : TlOk gs.length tl) {d : Int} {ps : List Pr} (h : SharedL gs tl d ps) : ps.Pairwise (fun p q => p.1 < q.1) := by
  refine h.srt.imp_of_mem ?_
  intro p q hp hq hlt
  obtain ⟨i, j, rfl, a0, a1, a2⟩ := h.mem p hp
  obtain ⟨i', j', rfl, b0, b1, b2⟩ := h.mem q hq
  have hlt : (j : Int) < (j' : Int) := hlt
  have h3 := (off_le_iff okG okT (i := j) (j := j') (fun e => by have := a1 e; omega) (fun e => by have := b1 e; omega)).mpr (by omega)
  have h4 := (off_le_iff okG okT (i := i) (j := i') a1 b1).mp (by omega)
  show (i : Int) < (i' : Int)
  omega
end RS
namespace RS
open PySem L2
/-! ### attempts that share a slot, of any tail: the mathematics -/
def VOk (gs : List Int) (tl : Tl) (i : Nat) : Prop := tl = .fin → i ≤ gs.length
def JOk (gs : List Int) : Tl → Nat → Prop
  | .rep _, j => j < gs.length
  | _, _ => True
/-- all pairs of attempts at a distance, those of the first turn alone, by the second -/
structure SharedF (gs : List Int) (tl : Tl) (d : Int) (ps : List Pr) : Prop where
  mem : ∀ p ∈ ps, ∃ i j : Nat, p = ((i : Int), (j : Int)) ∧ j < i ∧ VOk gs tl i ∧ JOk gs tl j ∧ off gs tl i - off gs tl j = d
  all : ∀ i j : Nat, j < i → VOk gs tl i → JOk gs tl j → off gs tl i - off gs tl j = d → ((i : Int), (j : Int)) ∈ ps
  srt : ps.Pairwise (fun p q => p.2 < q.2)
/-- the first attempts that lie a distance later -/
structure RchG (gs : List Int) (tl : Tl) (d : Int) (fs : List (Nat × Nat)) : Prop where
  inn : ∀ f ∈ fs, VOk gs tl f.1 ∧ JOk gs tl f.2 ∧ f.2 < f.1 ∧ d ≤ off gs tl f.1 - off gs tl f.2 ∧ (∀ k < f.1, off gs tl k - off gs tl f.2 < d) ∧ off gs tl f.1 - off gs tl f.2 ≤ 1001 * d + 1000000000000000 ∧ ((∀ m, tl ≠ .rep m) → f.1 ≤ 240)
  srt : fs.Pairwise (fun f g => f.2 < g.2)
  all : ∀ i j : Nat, j < i → VOk gs tl i → JOk gs tl j → d ≤ off gs tl i - off gs tl j → (∃ e, (e, j) ∈ fs) ∨ ∃ f ∈ fs, off gs tl f.1 - off gs tl f.2 < off gs tl i - off gs tl j
theorem VOk.lt {gs : List Int} {tl : Tl} {i j : Nat} (h : VOk gs tl i) (hj : j ≤ i) : VOk gs tl j := fun e => by have := h e; omega
theorem off_iff {gs : List Int} {tl : Tl} (okG : GapsOk gs) (okT : TlOk gs.length tl) {i j : Nat} (hi : VOk gs tl i) (hj : VOk gs tl j) : off gs tl i < off gs tl j ↔ i < j := off_le_iff okG okT hi hj
/-- a gap of a first attempt that is reached is not much greater than the distance -/
theorem bey_gap {gs : List Int} {b d : Int} (okG : GapsOk gs) (okT : TlOk gs.length (.times b)) (hd : 1 ≤ d) {n : Nat} (B : Bey gs b d n) {k : Nat} (hk : k + 2 ≤ n) : gapf gs (.times b) k ≤ 1000 * d + 1000000000000000 := by
  have hb := okT.2
  have hl := last_bd okG okT
  by_cases h1 : k < gs.length
  · rw [gap_low h1]
    have := (gap_bd okG h1).2
    omega
  · by_cases h2 : k < n - 2
    · have := B.le k (by omega) h2
      omega
    · by_cases h3 : k = gs.length
      · subst h3
        rw [gap_times (Nat.le_refl _), Nat.sub_self, Int.pow_succ, Int.pow_zero, Int.one_mul]
        have := Int.mul_le_mul hl.2 hb.2 (by omega) (by decide)
        omega
      · have h4 := gap_next okG okT (k := k - 1) (by omega)
        rw [show k - 1 + 1 = k by omega] at h4
        have h5 := B.le (k - 1) (by omega) (by omega)
        have h6 := gap_pos okG okT (n := k - 1) (fun z => nomatch z)
        have := Int.mul_le_mul h5 hb.2 (by omega) (by omega)
        omega
theorem rchG_of {gs : List Int} {tl : Tl} (okG : GapsOk gs) (okT : TlOk gs.length tl) (hnr : ∀ m, tl ≠ .rep m) {d : Int} (hd : 1 ≤ d) {n : Nat} (B : BeyT gs d n tl) (hn : n ≤ 240) {fs : List (Nat × Nat)} (h : RchF (offL gs tl n) d n fs) : RchG gs tl d fs := by
  have hin := h.inn
  have hall := h.all
  rw [offL_len] at hin hall
  have od : ∀ {k : Nat}, k < n → (offL gs tl n).getD k 0 = off gs tl k := fun hk => offL_getD _ _ hk
  have fin : ∀ {k : Nat}, k < n → VOk gs tl k := fun {k} hk e => by
    subst e
    have : n = gs.length + 1 := B
    omega
  have jok : ∀ j, JOk gs tl j := fun j => by
    cases tl with
    | rep m => exact absurd rfl (hnr m)
    | fin => exact True.intro
    | times b => exact True.intro
  refine ⟨fun f hf => ?_, h.srt, fun i j hij hi _ hdd => ?_⟩
  · obtain ⟨a1, a2, a3, a4⟩ := hin f hf
    rw [od a1, od a2] at a3
    have hlt : f.2 < f.1 := (off_iff okG okT (fin a1) (fin a2)).mp (by omega)
    have low : ∀ k < f.1, off gs tl k - off gs tl f.2 < d := fun k hk => by
      have := a4 k hk
      rw [od a1, od (show k < n by omega)] at this
      omega
    refine ⟨fin a2, jok _, hlt, by omega, low, ?_, fun _ => by omega⟩
    have h1 := low (f.1 - 1) (by omega)
    have h2 := off_succ okT (n := f.1 - 1) (fun e => by have := fin a2 e; omega)
    rw [show f.1 - 1 + 1 = f.1 by omega] at h2
    have h3 : gapf gs tl (f.1 - 1) ≤ 1000 * d + 1000000000000000 := by
      by_cases hl : f.1 - 1 < gs.length
      · rw [gap_low hl]
        have := (gap_bd okG hl).2
        omega
      · cases tl with
        | rep m => exact absurd rfl (hnr m)
        | fin => have := fin a2 rfl; omega
        | times b => exact bey_gap okG okT hd B (by omega)
    omega
  · by_cases hin2 : i < n
    · obtain ⟨e', he'⟩ := hall j (by omega) i hin2 (by rw [od (show j < n by omega), od hin2]; omega)
      exact .inl ⟨e', he'⟩
    · cases tl with
      | rep m => exact absurd rfl (hnr m)
      | fin => have h1 := hi rfl; have : n = gs.length + 1 := B; omega
      | times b =>
        have B : Bey gs b d n := B
        have hlo := B.lo
        by_cases hj : j + 1 < n
        · -- the last attempt lies far enough
          have h1 := B.hi
          have h2 := off_succ okT (n := n - 2) (fun z => nomatch z)
          rw [show n - 2 + 1 = n - 1 by omega] at h2
          have h3 : off gs (.times b) j ≤ off gs (.times b) (n - 2) := by
            by_cases e : j = n - 2
            · rw [e]; exact Int.le_refl _
            · exact Int.le_of_lt (off_lt okG okT (by omega) (fun z => nomatch z))
          obtain ⟨e', he'⟩ := hall j (by omega) (n - 1) (by omega) (by rw [od (show j < n by omega), od (show n - 1 < n by omega)]; omega)
          exact .inl ⟨e', he'⟩
        · -- the gap above the distance is less
          have h1 := B.hi
          have h2 := off_succ okT (n := n - 2) (fun z => nomatch z)
          rw [show n - 2 + 1 = n - 1 by omega] at h2
          obtain ⟨e', he'⟩ := hall (n - 2) (by omega) (n - 1) (by omega) (by rw [od (show n - 2 < n by omega), od (show n - 1 < n by omega)]; omega)
          obtain ⟨a1, a2, a3, a4⟩ := hin _ he'
          have a2 : e' < n := a2
          have a3 : d + (offL gs (.times b) n).getD (n - 2) 0 ≤ (offL gs (.times b) n).getD e' 0 := a3
          rw [od a2, od (show n - 2 < n by omega)] at a3
          have he1 : e' = n - 1 := by
            have : n - 2 < e' := (off_iff okG okT (fin (show n - 2 < n by omega)) (fin a2)).mp (by omega)
            omega
          subst he1
          refine .inr ⟨(n - 1, n - 2), he', ?_⟩
          show off gs (.times b) (n - 1) - off gs (.times b) (n - 2) < _
          have g1 := gap_next okG okT (k := n - 2) (by omega)
          rw [show n - 2 + 1 = n - 1 by omega] at g1
          have g2 := gap_le okG okT (n - 1) (i - 1 - (n - 1)) (by omega)
          rw [show n - 1 + (i - 1 - (n - 1)) = i - 1 by omega] at g2
          have g3 := gap_pos okG okT (n := n - 2) (fun z => nomatch z)
          have g4 := Int.mul_le_mul_of_nonneg_left (show (2 : Int) ≤ b from okT.2.1) (show 0 ≤ gapf gs (.times b) (n - 2) by omega)
          have h3 := off_succ okT (n := i - 1) (fun z => nomatch z)
          rw [show i - 1 + 1 = i by omega] at h3
          have h4 : off gs (.times b) j ≤ off gs (.times b) (i - 1) := by
            by_cases e : j = i - 1
            · rw [e]; exact Int.le_refl _
            · exact Int.le_of_lt (off_lt okG okT (by omega) (fun z => nomatch z))
          omega
/-- those just at the distance -/
def selG (gs : List Int) (tl : Tl) (d : Int) (fs : List (Nat × Nat)) : List Pr := (fs.filter fun f => decide (off gs tl f.1 - off gs tl f.2 = d)).map toPr
theorem selG_snoc (gs : List Int) (tl : Tl) (d : Int) (fs : List (Nat × Nat)) (f : Nat × Nat) : selG gs tl d (fs ++ [f]) = if off gs tl f.1 - off gs tl f.2 = d then selG gs tl d fs ++ [toPr f] else selG gs tl d fs := by
  unfold selG
  rw [List.filter_append, List.map_append, List.filter_cons]
  by_cases h : off gs tl f.1 - off gs tl f.2 = d
  · rw [if_pos h, if_pos (decide_eq_true h)]
    rfl
  · rw [if_neg h, if_neg (by rw [decide_eq_false h]; decide)]
    simp
theorem sharedF_of {gs : List Int} {tl : Tl} (okG : GapsOk gs) (okT : TlOk gs.length tl) {d : Int} {fs : List (Nat × Nat)} (h : RchG gs tl d fs) : SharedF gs tl d (selG gs tl d fs) := by
  refine ⟨fun p hp => ?_, fun i j hij hi hj e => ?_, ?_⟩
  · obtain ⟨f, hf, rfl⟩ := List.mem_map.mp hp
    obtain ⟨hf1, hf2⟩ := List.mem_filter.mp hf
    obtain ⟨a1, a2, a3, _⟩ := h.inn f hf1
    exact ⟨f.1, f.2, rfl, a3, a1, a2, of_decide_eq_true hf2⟩
  · rcases h.all i j hij hi hj (by omega) with ⟨e', he'⟩ | ⟨f, hf, hlt⟩
    · obtain ⟨a1, a2, a3, a4, a5, _⟩ := h.inn _ he'
      have a1 : VOk gs tl e' := a1
      have a4 : d ≤ off gs tl e' - off gs tl j := a4
      have a5 : ∀ k < e', off gs tl k - off gs tl j < d := a5
      have ee : e' = i := by
        rcases Nat.lt_trichotomy e' i with z | z | z
        · have := (off_iff okG okT a1 hi).mpr z
          omega
        · exact z
        · have := a5 i z
          omega
      subst ee
      exact List.mem_map.mpr ⟨(e', j), List.mem_filter.mpr ⟨he', decide_eq_true e⟩, rfl⟩
    · obtain ⟨_, _, _, a4, _⟩ := h.inn f hf
      omega
  · unfold selG
    refine List.pairwise_map.mpr ((h.srt.sublist List.filter_sublist).imp ?_)
    intro x y hxy
    show (x.2 : Int) < (y.2 : Int)
    omega
theorem SharedF.fst {gs : List Int} {tl : Tl} (okG : GapsOk gs) (okT : TlOk gs.length tl) {d : Int} {ps : List Pr} (h : SharedF gs tl d ps) : ps.Pairwise (fun p q => p.1 < q.1) := by
  refine h.srt.imp_of_mem ?_
  intro p q hp hq hlt
  obtain ⟨i, j, rfl, a0, a1, _, a2⟩ := h.mem p hp
  obtain ⟨i', j', rfl, b0, b1, _, b2⟩ := h.mem q hq
  have hlt : (j : Int) < (j' : Int) := hlt
  have h3 := (off_iff okG okT (i := j) (j := j') (a1.lt (by omega)) (b1.lt (by omega))).mpr (by omega)
  have h4 := (off_iff okG okT (i := i) (j := i') a1 b1).mp (by omega)
  show (i : Int) < (i' : Int)
  omega
theorem SharedF.one {gs : List Int} {tl : Tl} {d : Int} {ps qs : List Pr} (h : SharedF gs tl d ps) (g : SharedF gs tl d qs) : ps = qs := by
  refine pw_ext (r := fun p q : Pr => p.2 < q.2) (fun x => by omega) (fun x y => by omega) h.srt g.srt fun x => ⟨fun hx => ?_, fun hx => ?_⟩
  · obtain ⟨i, j, rfl, h0, h1, h2, h3⟩ := h.mem x hx
    exact g.all i j h0 h1 h2 h3
  · obtain ⟨i, j, rfl, h0, h1, h2, h3⟩ := g.mem x hx
    exact h.all i j h0 h1 h2 h3
/-- the single ones -/
def sglB (gs : List Int) : Tl → Pr → Bool
  | .rep m, p => decide (p.2 < ((gs.length - m : Nat) : Int))
  | _, _ => true
/-! ### the next distance -/
/-- the least difference from a distance on, and its least pair -/
def NextD (gs : List Int) (tl : Tl) (d : Int) : Option (Int × Nat × Nat) → Prop
  | none => ∀ i j : Nat, j < i → VOk gs tl i → off gs tl i - off gs tl j < d
  | some (D, i, j) => j < i ∧ VOk gs tl i ∧ JOk gs tl j ∧ off gs tl i - off gs tl j = D ∧ d ≤ D ∧ D ≤ 1001 * d + 1000000000000000 ∧ ((∀ m, tl ≠ .rep m) → i ≤ 240) ∧ (∀ i' j' : Nat, j' < i' → VOk gs tl i' → d ≤ off gs tl i' - off gs tl j' → D ≤ off gs tl i' - off gs tl j') ∧
    ∀ i' j' : Nat, j' < i' → VOk gs tl i' → JOk gs tl j' → off gs tl i' - off gs tl j' = D → j ≤ j'
theorem off_per {gs : List Int} {m : Nat} (h1 : 1 ≤ m) (h2 : m ≤ gs.length) {i : Nat} (hi : gs.length - m ≤ i) : off gs (.rep m) (i + m) = off gs (.rep m) i + per gs m := by
  have hr : (i - (gs.length - m)) % m < m := Nat.mod_lt _ (by omega)
  have hdm := Nat.mod_add_div (i - (gs.length - m)) m
  have a1 := off_turn h1 h2 (j := gs.length - m + (i - (gs.length - m)) % m) (by omega) (by omega) ((i - (gs.length - m)) / m)
  have a2 := off_turn h1 h2 (j := gs.length - m + (i - (gs.length - m)) % m) (by omega) (by omega) ((i - (gs.length - m)) / m + 1)
  rw [show gs.length - m + (i - (gs.length - m)) % m + m * ((i - (gs.length - m)) / m) = i by omega] at a1
  rw [show gs.length - m + (i - (gs.length - m)) % m + m * ((i - (gs.length - m)) / m + 1) = i + m by rw [Nat.mul_succ]; omega] at a2
  rw [a1, a2, Int.natCast_add, Int.add_mul]
  simp
  omega
/-- a pair of later turns has the difference of one of the first -/
theorem pair_back {gs : List Int} {tl : Tl} (okT : TlOk gs.length tl) : ∀ (j i : Nat), j < i → VOk gs tl i → ∃ i0 j0 : Nat, j0 < i0 ∧ VOk gs tl i0 ∧ JOk gs tl j0 ∧ off gs tl i0 - off gs tl j0 = off gs tl i - off gs tl j := by
  cases tl with
  | fin => exact fun j i h hi => ⟨i, j, h, hi, True.intro, rfl⟩
  | times b => exact fun j i h hi => ⟨i, j, h, hi, True.intro, rfl⟩
  | rep m =>
    have h1 : 1 ≤ m := okT.1
    have h2 : m ≤ gs.length := okT.2
    intro j
    induction j using Nat.strongRecOn with
    | ind j ih =>
      intro i h hi
      by_cases hj : j < gs.length
      · exact ⟨i, j, h, hi, hj, rfl⟩
      · obtain ⟨i0, j0, a1, a2, a3, a4⟩ := ih (j - m) (by omega) (i - m) (by omega) (fun e => nomatch e)
        have b1 := off_per h1 h2 (i := j - m) (by omega)
        have b2 := off_per h1 h2 (i := i - m) (by omega)
        rw [show j - m + m = j by omega] at b1
        rw [show i - m + m = i by omega] at b2
        exact ⟨i0, j0, a1, a2, a3, by omega⟩
theorem nextD_none {gs : List Int} {tl : Tl} (okT : TlOk gs.length tl) {d : Int} (h : RchG gs tl d []) : NextD gs tl d none := fun i j hij hi => by
  obtain ⟨i0, j0, a1, a2, a3, a4⟩ := pair_back okT j i hij hi
  refine Classical.byContradiction fun z => ?_
  rcases h.all i0 j0 a1 a2 a3 (by omega) with ⟨e, he⟩ | ⟨f, hf, _⟩
  · cases he
  · cases hf
/-- the least of the tuples is the next distance -/
theorem nextD_some {gs : List Int} {tl : Tl} (okG : GapsOk gs) (okT : TlOk gs.length tl) {d : Int} {fs : List (Nat × Nat)} (h : RchG gs tl d fs) {f : Nat × Nat} (hf : f ∈ fs) (hmin : ∀ g ∈ fs, off gs tl f.1 - off gs tl f.2 < off gs tl g.1 - off gs tl g.2 ∨ (off gs tl f.1 - off gs tl f.2 = off gs tl g.1 - off gs tl g.2 ∧ f.1 ≤ g.1)) : NextD gs tl d (some (off gs tl f.1 - off gs tl f.2, f.1, f.2)) := by
  obtain ⟨a1, a2, a3, a4, a5, a6, a7⟩ := h.inn f hf
  have least : ∀ i' j' : Nat, j' < i' → VOk gs tl i' → JOk gs tl j' → d ≤ off gs tl i' - off gs tl j' → off gs tl f.1 - off gs tl f.2 ≤ off gs tl i' - off gs tl j' := fun i' j' h1 h2 h3 h4 => by
    rcases h.all i' j' h1 h2 h3 h4 with ⟨e, he⟩ | ⟨g, hg, hlt⟩
    · obtain ⟨b1, b2, b3, b4, b5, _⟩ := h.inn _ he
      have b1 : VOk gs tl e := b1
      have b5 : ∀ k < e, off gs tl k - off gs tl j' < d := b5
      have hle : e ≤ i' := by
        rcases Nat.lt_or_ge i' e with z | z
        · have := b5 i' z
          omega
        · exact z
      have h5 : off gs tl e ≤ off gs tl i' := by
        rcases Nat.lt_or_eq_of_le hle with z | z
        · exact Int.le_of_lt ((off_iff okG okT b1 h2).mpr z)
        · rw [z]; exact Int.le_refl _
      have h6 := hmin _ he
      simp only at h6
      omega
    · have h6 := hmin g hg
      omega
  refine ⟨a3, a1, a2, rfl, a4, a6, a7, fun i' j' h1 h2 h3 => ?_, fun i' j' h1 h2 h3 h4 => ?_⟩
  · obtain ⟨i0, j0, b1, b2, b3, b4⟩ := pair_back okT j' i' h1 h2
    have := least i0 j0 b1 b2 b3 (by omega)
    omega
  · rcases h.all i' j' h1 h2 h3 (by omega) with ⟨e, he⟩ | ⟨g, hg, hlt⟩
    · obtain ⟨b1, b2, b3, b4, b5, _⟩ := h.inn _ he
      have b1 : VOk gs tl e := b1
      have b4 : d ≤ off gs tl e - off gs tl j' := b4
      have b5 : ∀ k < e, off gs tl k - off gs tl j' < d := b5
      have h6 := hmin _ he
      simp only at h6
      have hle : e ≤ i' := by
        rcases Nat.lt_or_ge i' e with z | z
        · have := b5 i' z
          omega
        · exact z
      have h5 : e = i' := by
        rcases Nat.lt_or_eq_of_le hle with z | z
        · have := (off_iff okG okT b1 h2).mpr z
          omega
        · exact z
      subst h5
      have h7 : f.1 ≤ e := by omega
      have h8 : off gs tl f.2 ≤ off gs tl j' := by
        have : off gs tl f.1 ≤ off gs tl e := by
          rcases Nat.lt_or_eq_of_le h7 with z | z
          · exact Int.le_of_lt ((off_iff okG okT a1 h2).mpr z)
          · rw [z]; exact Int.le_refl _
        omega
      rcases Nat.lt_or_ge j' f.2 with z | z
      · have := (off_iff okG okT (h2.lt (by omega)) (a1.lt (by omega))).mpr z
        omega
      · exact z
    · have h6 := hmin g hg
      omega
theorem NextD.one {gs : List Int} {tl : Tl} (okG : GapsOk gs) (okT : TlOk gs.length tl) {d : Int} {r s : Option (Int × Nat × Nat)} (h : NextD gs tl d r) (g : NextD gs tl d s) : r = s := by
  match r, s, h, g with
  | none, none, _, _ => rfl
  | none, some (D, i, j), h, ⟨a1, a2, a3, a4, a5, _⟩ =>
    have := h i j a1 a2
    omega
  | some (D, i, j), none, ⟨a1, a2, a3, a4, a5, _⟩, h =>
    have := h i j a1 a2
    omega
  | some (D, i, j), some (D', i', j'), ⟨a1, a2, a3, a4, a5, _, _, a6, a7⟩, ⟨b1, b2, b3, b4, b5, _, _, b6, b7⟩ =>
    have h1 := a6 i' j' b1 b2 (by omega)
    have h2 := b6 i j a1 a2 (by omega)
    have eD : D = D' := by omega
    subst eD
    have h3 := a7 i' j' b1 b2 b3 b4
    have h4 := b7 i j a1 a2 a3 a4
    have ej : j = j' := by omega
    subst ej
    have ei : i = i' := by
      rcases Nat.lt_trichotomy i i' with z | z | z
      · have := (off_iff okG okT a2 b2).mpr z; omega
      · exact z
      · have := (off_iff okG okT b2 a2).mpr z; omega
    subst ei
    rfl
end RS
namespace RS
open PySem L2
section
variable {P : Program} {w : World} {K : PySem.W.Frag} {mg : Str → Option Value} {base : Heap}
/-! ### the least difference from a distance on -/
def spCkD : Sp := fun vs H Q _ => ∃ i : Int, vs = [.int i] ∧ 1 ≤ i ∧ Q .non H
theorem scCkD : FnScope ["distance"] ["distance"] (defScope s_check_distance) := ⟨rfl, rfl, rfl, by decide +kernel, rfl, by decide +kernel, by decide +kernel⟩
theorem ok_ckD {f C fI : Addr} {fd fdI : FuncData} (F : Fun K "_check_distance" "_check_distance" s_check_distance f fd) (T : Txt K mg C) (GI : FnOk P w K mg base CX0 1 fI fdI ["value"] spIsInt) (bI : Binds K fdI ["value"] []) (mI : mg "is_integer" = some (.ref fI)) (kI : PySem.W.keepIn K (.ref fI) = true) : FnOk P w K mg base CX0 2 f fd ["distance"] spCkD := by
  refine F.ok scCkD (fun vs H Q E h => ?_) (fun cdv A outer s H vs Q E hr h => ?_)
  · obtain ⟨i, rfl, _⟩ := h
    rfl
  · obtain ⟨i, rfl, h1, k⟩ := h
    refine ⟨_, (pss_one (ps_if (PW.pt (pw_or (pt_not (pt_val (pe_call GI hr rfl mI kI bI .nil pass0 (pa_cons (pv 0) pa_nil)))) (pw_or1 (pt_cmpR op_lt (pv 0) pe_int (nomark _))))) (pss_one ps_never) pss_nil)), ?_⟩
    exact ⟨_, rfl, i, rfl, true, rfl, iteF ⟨_, rfl, _, _, rfl, rfl, _, rfl, iteFb (decide_eq_false (by omega)) k⟩⟩
/-- the attempt that reaches a distance from a later client's attempt -/
structure Reach (gs : List Int) (m : Nat) (d : Int) (l e : Nat) : Prop where
  le : d + off gs (.rep m) l ≤ off gs (.rep m) e
  lt : 0 < e → off gs (.rep m) (e - 1) < d + off gs (.rep m) l
def spRR (C : Addr) : Sp := fun vs H Q _ => ∃ (p g t o : Addr) (gs : List Int) (m : Nat) (d : Int) (l : Nat), vs = [.ref p, .int d, .int (l : Int)] ∧ RuleAt C H p g t o gs (.rep m) ∧ 1 ≤ d ∧ d < 2 ^ 150 ∧ l < gs.length ∧
  ∀ q r e H', H q = none → Same H H' → Reach gs m d l e → H' q = some (.tup [.int (off gs (.rep m) e - off gs (.rep m) l), .ref r]) → H' r = some (.tup [.int (e : Int), .int (l : Int)]) → Q (.ref q) H'
theorem scRR : FnScope ["rule", "distance", "later", "earlier"] ["rule", "distance", "later"] (defScope s_reaching_repeated) := ⟨rfl, rfl, rfl, by decide +kernel, rfl, by decide +kernel, by decide +kernel⟩
theorem ok_rr {f C fF fO : Addr} {fd fdF fdO : FuncData} (F : Fun K "_reaching_repeated" "_reaching_repeated" s_reaching_repeated f fd) (T : Txt K mg C) (GF : FnOk P w K mg base CX0 5 fF fdF ["self", "distance"] (spFF C)) (bF : Binds K fdF ["self", "distance"] []) (mF : Meth K C "first_from" fF)
    (GO : FnOk P w K mg base CX0 4 fO fdO ["self", "attempt"] (spOff C)) (bO : Binds K fdO ["self", "attempt"] []) (mO : Meth K C "offset" fO) : FnOk P w K mg base CX0 6 f fd ["rule", "distance", "later"] (spRR C) := by
  refine F.ok scRR (fun vs H Q E h => ?_) (fun cdv A outer s H vs Q E hr h => ?_)
  · obtain ⟨p, g, t, o, gs, m, d, l, rfl, _⟩ := h
    rfl
  · obtain ⟨p, g, t, o, gs, m, d, l, rfl, R, h1, h2, hlt, k⟩ := h
    have hr4 := hr.mono (show 4 ≤ 5 by decide)
    refine ⟨_, (pss_cons (ps_set (i := 3) scRR.nd rfl (Or.inl rfl) (pe_meth (pv 0) T.cl mF GF hr bF .nil pass0 (pa_cons (pe_op op_add (pe_meth (pv 0) T.cl mO GO hr4 bO .nil pass0 (pa_cons (pv 2) pa_nil)) (pv 1)) pa_nil))) (pss_one (ps_ret (pe_tup (pa_cons (pe_op op_sub (pe_meth (pv 0) T.cl mO GO hr4 bO .nil pass0 (pa_cons (pv 3) pa_nil)) (pe_meth (pv 0) T.cl mO GO hr4 bO .nil pass0 (pa_cons (pv 2) pa_nil))) (pa_cons (pe_tup (pa_cons (pv 3) (pa_cons (pv 2) pa_nil))) pa_nil)))))), ?_⟩
    obtain ⟨dx, hob⟩ := R.ob
    refine ⟨_, rfl, p, dx, _, rfl, hob, flds_no _ _ _ (by decide +kernel) (by decide +kernel) (by decide +kernel), _, rfl, p, dx, _, rfl, hob, flds_no _ _ _ (by decide +kernel) (by decide +kernel) (by decide +kernel), _, rfl, p, g, t, o, gs, .rep m, l, rfl, R, True.intro, fun H1 S1 => ?_⟩
    refine ⟨_, rfl, _, _, rfl, rfl, p, g, t, o, gs, .rep m, _, rfl, R.mono S1, ?_, fun r H2 S2 hF => ?_⟩
    · show off gs (.rep m) l + d < 2 ^ 200
      rw [off_low (by omega)]
      have h3 := (pre_le R.okG l (by omega)).2
      have h4 := R.okG.1
      have h5 : (2 : Int) ^ 150 + 1000000000000 * 20 < 2 ^ 200 := by decide
      omega
    rcases hF with ⟨_, h, _⟩ | ⟨e, rfl, _, he1, he2⟩
    · cases h
    have S12 := S1.trans S2
    have R2 := R.mono S12
    obtain ⟨dx2, hob2⟩ := R2.ob
    refine ⟨_, rfl, p, dx2, _, rfl, hob2, flds_no _ _ _ (by decide +kernel) (by decide +kernel) (by decide +kernel), _, rfl, p, g, t, o, gs, .rep m, e, rfl, R2, True.intro, fun H3 S3 => ?_⟩
    have R3 := R2.mono S3
    obtain ⟨dx3, hob3⟩ := R3.ob
    refine ⟨_, rfl, p, dx3, _, rfl, hob3, flds_no _ _ _ (by decide +kernel) (by decide +kernel) (by decide +kernel), _, rfl, p, g, t, o, gs, .rep m, l, rfl, R3, True.intro, fun H4 S4 => ?_⟩
    refine ⟨_, _, rfl, rfl, _, rfl, _, rfl, by show 2 ≤ sizeLine; decide, fun r1 hr1 => ⟨by show 2 ≤ sizeLine; decide, fun q hq => ?_⟩⟩
    have S := (S12.trans S3).trans S4
    have e1 := upd_same (H := H4) (a := r1) (o := .tup [.int (e : Int), .int (l : Int)])
    have T1 := same_new (o := .tup [.int (e : Int), .int (l : Int)]) hr1
    have T2 := same_new (o := .tup [.int (off gs (.rep m) e - off gs (.rep m) l), .ref r1]) hq
    exact k q r1 e _ (S.free (T1.free hq)) ((S.trans T1).trans T2) ⟨by omega, fun h => by have := he2 h; omega⟩ upd_same (T2 _ _ e1)
end
end RS
namespace RS
open PySem L2
section
variable {P : Program} {w : World} {K : PySem.W.Frag} {mg : Str → Option Value} {base : Heap}
/-! ### _reaching, of any tail -/
/-- the tuples that _reaching makes -/
def RchI (H : Hp) (rs : List Addr) (os : List Int) (fs : List (Nat × Nat)) : Prop := rs.length = fs.length ∧ ∀ (j : Nat) (f : Nat × Nat), fs[j]? = some f → ∃ t u, rs[j]? = some t ∧ H t = some (.tup [.int (os.getD f.1 0 - os.getD f.2 0), .ref u]) ∧ H u = some (.tup [.int (f.1 : Int), .int (f.2 : Int)])
theorem RchI.kx {H H' : Hp} {rs : List Addr} {os : List Int} {fs : List (Nat × Nat)} (t : RchI H rs os fs) (h : ∀ (r : Addr) (xs : List V), H r = some (.tup xs) → H' r = some (.tup xs)) : RchI H' rs os fs :=
  ⟨t.1, fun j f e => let ⟨t', u, a, b, c⟩ := t.2 j f e; ⟨t', u, a, h _ _ b, h _ _ c⟩⟩
theorem RchI.snoc {H : Hp} {rs : List Addr} {os : List Int} {fs : List (Nat × Nat)} {t u : Addr} {f : Nat × Nat} (h : RchI H rs os fs) (h1 : H t = some (.tup [.int (os.getD f.1 0 - os.getD f.2 0), .ref u])) (h2 : H u = some (.tup [.int (f.1 : Int), .int (f.2 : Int)])) : RchI H (rs ++ [t]) os (fs ++ [f]) := by
  refine ⟨by rw [List.length_append, List.length_append, h.1]; rfl, fun j g e => ?_⟩
  by_cases hj : j < fs.length
  · rw [List.getElem?_append_left hj] at e
    obtain ⟨t', u', e1, e2, e3⟩ := h.2 j g e
    exact ⟨t', u', by rw [List.getElem?_append_left (by rw [h.1]; exact hj)]; exact e1, e2, e3⟩
  · have hl := (List.getElem?_eq_some_iff.mp e).1
    rw [List.length_append, List.length_singleton] at hl
    have ej : j = fs.length := by omega
    subst ej
    rw [List.getElem?_append_right (Nat.le_refl _), Nat.sub_self] at e
    cases e
    exact ⟨t, u, by rw [← h.1, List.getElem?_append_right (Nat.le_refl _), Nat.sub_self]; rfl, h1, h2⟩
/-- the tuples, by the rule's offsets -/
def RchD (H : Hp) (rs : List Addr) (gs : List Int) (tl : Tl) (fs : List (Nat × Nat)) : Prop := rs.length = fs.length ∧ ∀ (j : Nat) (f : Nat × Nat), fs[j]? = some f → ∃ t u, rs[j]? = some t ∧ H t = some (.tup [.int (off gs tl f.1 - off gs tl f.2), .ref u]) ∧ H u = some (.tup [.int (f.1 : Int), .int (f.2 : Int)])
theorem RchD.kx {H H' : Hp} {rs : List Addr} {gs : List Int} {tl : Tl} {fs : List (Nat × Nat)} (t : RchD H rs gs tl fs) (h : ∀ (r : Addr) (xs : List V), H r = some (.tup xs) → H' r = some (.tup xs)) : RchD H' rs gs tl fs :=
  ⟨t.1, fun j f e => let ⟨t', u, a, b, c⟩ := t.2 j f e; ⟨t', u, a, h _ _ b, h _ _ c⟩⟩
theorem RchD.snoc {H : Hp} {rs : List Addr} {gs : List Int} {tl : Tl} {fs : List (Nat × Nat)} {t u : Addr} {f : Nat × Nat} (h : RchD H rs gs tl fs) (h1 : H t = some (.tup [.int (off gs tl f.1 - off gs tl f.2), .ref u])) (h2 : H u = some (.tup [.int (f.1 : Int), .int (f.2 : Int)])) : RchD H (rs ++ [t]) gs tl (fs ++ [f]) := by
  refine ⟨by rw [List.length_append, List.length_append, h.1]; rfl, fun j g e => ?_⟩
  by_cases hj : j < fs.length
  · rw [List.getElem?_append_left hj] at e
    obtain ⟨t', u', e1, e2, e3⟩ := h.2 j g e
    exact ⟨t', u', by rw [List.getElem?_append_left (by rw [h.1]; exact hj)]; exact e1, e2, e3⟩
  · have hl := (List.getElem?_eq_some_iff.mp e).1
    rw [List.length_append, List.length_singleton] at hl
    have ej : j = fs.length := by omega
    subst ej
    rw [List.getElem?_append_right (Nat.le_refl _), Nat.sub_self] at e
    cases e
    exact ⟨t, u, by rw [← h.1, List.getElem?_append_right (Nat.le_refl _), Nat.sub_self]; rfl, h1, h2⟩
theorem rchD_of {H : Hp} {rs : List Addr} {gs : List Int} {tl : Tl} {d : Int} {n : Nat} {fs : List (Nat × Nat)} (t : RchI H rs (offL gs tl n) fs) (h : RchF (offL gs tl n) d n fs) : RchD H rs gs tl fs :=
  ⟨t.1, fun j f e => by
    obtain ⟨t', u, a, b, c⟩ := t.2 j f e
    obtain ⟨a1, a2, _⟩ := h.inn f (List.mem_of_getElem? e)
    rw [offL_len] at a2
    rw [offL_getD _ _ a2, offL_getD _ _ a1] at b
    exact ⟨t', u, a, b, c⟩⟩
theorem rchG_rep {gs : List Int} {m : Nat} (okG : GapsOk gs) (okT : TlOk gs.length (.rep m)) {d : Int} (hd : 1 ≤ d) {fs : List (Nat × Nat)} (hl : fs.length = gs.length) (h : ∀ l < gs.length, ∃ e, fs[l]? = some (e, l) ∧ Reach gs m d l e) : RchG gs (.rep m) d fs := by
  have at_ : ∀ {j : Nat} {f : Nat × Nat}, fs[j]? = some f → f.2 = j ∧ Reach gs m d j f.1 := fun {j f} e => by
    have hj := (List.getElem?_eq_some_iff.mp e).1
    obtain ⟨e', h1, h2⟩ := h j (by omega)
    rw [e] at h1
    cases h1
    exact ⟨rfl, h2⟩
  have iff := fun {i j : Nat} => off_lt (i := i) (j := j) okG okT
  refine ⟨fun f hf => ?_, ?_, fun i j hij _ hj _ => ?_⟩
  · obtain ⟨j, e⟩ := List.mem_iff_getElem?.mp hf
    have hj := (List.getElem?_eq_some_iff.mp e).1
    obtain ⟨e2, hR⟩ := at_ e
    rw [e2]
    have h1 := hR.le
    have hlt : j < f.1 := by
      rcases Nat.lt_or_ge j f.1 with z | z
      · exact z
      · rcases Nat.lt_or_eq_of_le z with y | y
        · have := off_lt okG okT y (fun z => nomatch z)
          omega
        · rw [y] at h1
          omega
    have h2 := hR.lt (by omega)
    have h3 := off_succ okT (n := f.1 - 1) (fun z => nomatch z)
    rw [show f.1 - 1 + 1 = f.1 by omega] at h3
    have h4 : gapf gs (.rep m) (f.1 - 1) ≤ 1000000000000 := by
      by_cases hk : f.1 - 1 < gs.length
      · rw [gap_low hk]
        exact (gap_bd okG hk).2
      · rw [gap_rep (by omega)]
        have h5 : (f.1 - 1 - gs.length) % m < m := Nat.mod_lt _ (by have := okT.1; omega)
        exact (gap_bd okG (by have := okT.2; omega)).2
    refine ⟨fun z => (nomatch z), (show j < gs.length by omega), hlt, by omega, fun k hk => ?_, by omega, fun z => absurd rfl (z m)⟩
    have h5 : off gs (.rep m) k ≤ off gs (.rep m) (f.1 - 1) := by
      by_cases e3 : k = f.1 - 1
      · rw [e3]; exact Int.le_refl _
      · exact Int.le_of_lt (off_lt okG okT (by omega) (fun z => nomatch z))
    omega
  · rw [List.pairwise_iff_getElem]
    intro i j hi hj hij
    have h1 := (at_ (List.getElem?_eq_getElem hi)).1
    have h2 := (at_ (List.getElem?_eq_getElem hj)).1
    omega
  · obtain ⟨e, he, _⟩ := h j hj
    exact .inl ⟨e, List.mem_of_getElem? he⟩
def spRg (C : Addr) : Sp := fun vs H Q _ => ∃ (p g t o : Addr) (gs : List Int) (tl : Tl) (d : Int), vs = [.ref p, .int d] ∧ RuleAt C H p g t o gs tl ∧ 1 ≤ d ∧ d < 2 ^ 150 ∧
  ∀ q rs fs H', H q = none → Same H H' → fs.length ≤ 240 → H' q = some (.lst (rs.map V.ref)) → RchD H' rs gs tl fs → RchG gs tl d fs → Q (.ref q) H'
def rchN : List Str := ["rule", "distance", "offsets", "found", "earlier", "later", "offset"]
theorem scRg : FnScope rchN ["rule", "distance"] (defScope s_reaching) := ⟨rfl, rfl, rfl, by decide +kernel, rfl, by decide +kernel, by decide +kernel⟩
theorem BeyT.le {gs : List Int} {reach : Int} {n : Nat} {tl : Tl} (okG : GapsOk gs) (okT : TlOk gs.length tl) (B : BeyT gs reach n tl) (h : reach < 2 ^ 190) : n ≤ 240 := by
  have hg := okG.1
  cases tl with
  | fin => have : n = gs.length + 1 := B; omega
  | rep m => have : n = gs.length + 1 := B; omega
  | times b => have := Bey.bd okG okT B h (by decide); omega
theorem ok_rg {f C fF fB fG fR : Addr} {fd fdF fdB fdG fdR : FuncData} (F : Fun K "_reaching" "_reaching" s_reaching f fd) (T : Txt K mg C) (GF : FnOk P w K mg base CX0 1 fF fdF ["self"] (spFRA C)) (bF : Binds K fdF ["self"] []) (mF : Meth K C "first_repeating" fF)
    (GB : FnOk P w K mg base CX0 3 fB fdB ["rule", "reach"] (spOb C)) (bB : Binds K fdB ["rule", "reach"] []) (mB : mg "offsets_beyond" = some (.ref fB)) (kB : PySem.W.keepIn K (.ref fB) = true)
    (GG : FnOk P w K mg base CX0 1 fG fdG ["self"] (spGaps C)) (bG : Binds K fdG ["self"] []) (mG : Meth K C "gaps" fG)
    (GR : FnOk P w K mg base CX0 6 fR fdR ["rule", "distance", "later"] (spRR C)) (bR : Binds K fdR ["rule", "distance", "later"] []) (mR : mg "_reaching_repeated" = some (.ref fR)) (kR : PySem.W.keepIn K (.ref fR) = true) : FnOk P w K mg base CX0 7 f fd ["rule", "distance"] (spRg C) := by
  refine F.ok scRg (fun vs H Q E h => ?_) (fun cdv A outer s H vs Q E hr h => ?_)
  · obtain ⟨p, g, t, o, gs, tl, d, rfl, _⟩ := h
    rfl
  · obtain ⟨p, g, t, o, gs, tl, d, rfl, R, hd1, hd2, k⟩ := h
    have hr1 := hr.mono (show 1 ≤ 6 by decide)
    have hr3 := hr.mono (show 3 ≤ 6 by decide)
    refine ⟨_, (pss_cons (ps_if (pt_cmpR op_notN (pe_meth0 (pv 0) T.cl mF GF hr1 bF .nil pass0) pe_non (nomark _)) (pss_one (ps_ret (pe_lc (own := [("later", 5)]) (g := gName 5) (tt := tYes) rfl scRg.nd (pi_range1 rfl T.range (pa_cons (pe_callB call_len_seq (by rfl) T.len (by decide +kernel) (pa_cons (pe_meth0 (pv 0) T.cl mG GG hr1 bG .nil pass0) pa_nil)) pa_nil)) (blkOk_by (own := [("later", 5)]) (N := rchN) (sc := (defScope s_reaching)) (by decide +kernel)) (fun _ _ _ _ _ => (pg_name (i := 5) scRg.nd rfl (Or.inl rfl))) (fun _ _ _ _ _ => pts_nil) (fun _ _ _ _ _ => (pe_call GR hr rfl mR kR bR .nil pass0 (pa_cons (pv 0) (pa_cons (pv 1) (pa_cons (pv 5) pa_nil)))))))) pss_nil) (pss_cons (ps_set (i := 2) scRg.nd rfl (Or.inl rfl) (pe_call GB hr3 rfl mB kB bB .nil pass0 (pa_cons (pv 0) (pa_cons (pv 1) pa_nil)))) (pss_cons (ps_set (i := 3) scRg.nd rfl (Or.inl rfl) (pe_lst pa_nil)) (pss_cons (ps_set (i := 4) scRg.nd rfl (Or.inl rfl) pe_int) (pss_cons (ps_for PassesOwn.never rfl (pi_enum (by rfl) T.enum (pa_cons (pv 2) pa_nil)) (pg_tup rfl (pgs_cons (pg_name (i := 5) scRg.nd rfl (Or.inl rfl)) (pgs_cons (pg_name (i := 6) scRg.nd rfl (Or.inl rfl)) pgs_nil))) (pss_cons (ps_while PassesOwn.never (PW.pt (pw_and (pt_cmpR op_lt (pv 4) (pe_callB call_len_seq (by rfl) T.len (by decide +kernel) (pa_cons (pv 2) pa_nil)) (nomark _)) (pw_and1 (pt_cmpR op_lt (pe_ix ix_list (pv 2) (pv 4) (fun _ _ => rfl)) (pe_op op_add (pv 6) (pv 1)) (nomark _))))) (pss_one (ps_set (i := 4) scRg.nd rfl (Or.inl rfl) (pe_op op_add (pv 4) pe_int)))) (pss_one (ps_if (pt_cmpR op_lt (pv 4) (pe_callB call_len_seq (by rfl) T.len (by decide +kernel) (pa_cons (pv 2) pa_nil)) (nomark _)) (pss_one (ps_expr (pe_bm PySem.F.plainAttrs_list PySem.F.slot_list_append PySem.F.type_list_append mt_append (pv 3) (pa_cons (pe_tup (pa_cons (pe_op op_sub (pe_ix ix_list (pv 2) (pv 4) (fun _ _ => rfl)) (pv 6)) (pa_cons (pe_tup (pa_cons (pv 4) (pa_cons (pv 5) pa_nil))) pa_nil))) pa_nil)))) pss_nil)))) (pss_one (ps_ret (pv 3)))))))), ?_⟩
    obtain ⟨dx, hob⟩ := R.ob
    refine ⟨_, rfl, p, dx, _, rfl, hob, flds_no _ _ _ (by decide +kernel) (by decide +kernel) (by decide +kernel), p, g, t, o, gs, tl, rfl, R, ?_⟩
    have okG := R.okG
    have okT := R.okT
    by_cases hrep : ∃ m, tl = .rep m
    · obtain ⟨m, rfl⟩ := hrep
      refine ⟨rfl, _, rfl, iteTb rfl ?_⟩
      have hg20 := okG.1
      refine ⟨_, rfl, p, dx, _, rfl, hob, flds_no _ _ _ (by decide +kernel) (by decide +kernel) (by decide +kernel), p, g, t, o, gs, .rep m, rfl, R, fun l0 hl0 => ?_⟩
      have S1 := same_new (o := .lst (gs.map V.int)) hl0
      refine ⟨l0, _, rfl, .inl (SqL.of upd_same), _, rfl, ?_⟩
      rw [List.length_map]
      generalize (upd H l0 (.lst (gs.map V.int))) = H1 at S1 ⊢
      have R1 := R.mono S1
      refine ⟨by omega, by omega, fun D hD => ?_⟩
      refine lc_range (lo := 0) (n := ((gs.length : Int)).toNat) (fun i H' => Same H1 H' ∧ ∃ (rs : List Addr) (fs : List (Nat × Nat)), H' D = some (.lst (rs.map V.ref)) ∧ RchD H' rs gs (.rep m) fs ∧ fs.length = i ∧ ∀ l < i, ∃ e, fs[l]? = some (e, l) ∧ Reach gs m d l e) ⟨same_new hD, [], [], upd_same, ⟨rfl, (fun j f h => nomatch h)⟩, rfl, fun l h => absurd h (Nat.not_lt_zero _)⟩ (fun i H2 hi z => ?_) (fun H2 z => ?_)
      · obtain ⟨S2, rs, fs, hrs, tp, hlen, hall⟩ := z
        refine ⟨rfl, yes_t (iteT ?_)⟩
        refine ⟨_, rfl, _, rfl, _, rfl, p, g, t, o, gs, m, d, i, by rw [Int.zero_add]; rfl, R1.mono S2, hd1, hd2, by omega, fun q r e H3 hq S3 hre hq3 hr3 => ?_⟩
        have hD3 := S3 _ _ hrs
        have nt : ∀ (y : Addr) (xs : List V), H3 y = some (.tup xs) → upd H3 D (.lst (rs.map V.ref ++ [V.ref q])) y = some (.tup xs) := fun y xs e => by
          rw [upd_ne (ne_of e hD3 (by intro z; cases z))]
          exact e
        refine ⟨_, hD3, by rw [List.length_map, tp.1]; exact small1000 (by omega), same_app hD (S2.trans S3), rs ++ [q], fs ++ [(e, i)], by rw [upd_same, List.map_append]; rfl, RchD.snoc ((tp.kx fun r xs e => S3 r _ e).kx nt) (nt _ _ hq3) (nt _ _ hr3), by rw [List.length_append, hlen]; rfl, fun l hl => ?_⟩
        by_cases hli : l < i
        · obtain ⟨e', h1, h2⟩ := hall l hli
          exact ⟨e', by rw [List.getElem?_append_left (by omega)]; exact h1, h2⟩
        · have : l = i := by omega
          subst this
          exact ⟨e, by rw [List.getElem?_append_right (by omega), hlen, Nat.sub_self]; rfl, hre⟩
      obtain ⟨S2, rs, fs, hrs, tp, hlen, hall⟩ := z
      have hlen : fs.length = gs.length := hlen
      exact k D rs fs H2 (S1.free hD) (S1.trans S2) (by omega) hrs tp (rchG_rep okG okT hd1 hlen hall)
    have hnr : ∀ m, tl ≠ .rep m := fun m e => hrep ⟨m, e⟩
    have hfr : frV gs tl = .non := by
      cases tl with
      | rep m => exact absurd rfl (hnr m)
      | fin => rfl
      | times b => rfl
    rw [hfr]
    refine ⟨rfl, _, rfl, iteFb rfl ?_⟩
    have hd3 : d < 2 ^ 200 := Int.lt_trans hd2 (by decide)
    refine ⟨_, rfl, _, rfl, p, g, t, o, gs, tl, d, rfl, R, hd3, fun q n H1 hq S1 hB hq1 => ?_⟩
    have hn240 := BeyT.le okG okT hB (Int.lt_trans hd2 (by decide))
    have hasc : Asc (offL gs tl n) := asc_any okG okT (fun e => by subst e; exact Nat.le_of_eq hB)
    have hol : (offL gs tl n).length = n := offL_len _ _ _
    have k : ∀ q rs fs H', H q = none → Same H H' → fs.length ≤ n → H' q = some (.lst (rs.map V.ref)) → RchI H' rs (offL gs tl n) fs → RchF (offL gs tl n) d n fs → Q (.ref q) H' := fun q rs fs H' a b c e tp hF => k q rs fs H' a b (by omega) e (rchD_of tp hF) (rchG_of okG okT hnr hd1 hB hn240 hF)
    generalize offL gs tl n = os at hq1 hasc hol k
    refine ⟨(by show 0 ≤ sizeLine; decide), fun L hL => ?_⟩
    have SL := same_new (o := .lst []) hL
    have hL1 : (upd H1 L (.lst [])) L = some (.lst []) := upd_same
    have hLH : H L = none := S1.free hL
    have hq2 := SL _ _ hq1
    have nqL : q ≠ L := ne_of_none hq1 hL
    have S2 := S1.trans SL
    generalize upd H1 L (.lst []) = H2 at hL1 hq2 S2
    clear SL hL hq1 S1
    have at_ : ∀ j, j < n → atI (os.map V.int) (j : Int) = some (.int (os.getD j 0)) := fun j hj => atI_nat (by rw [List.getElem?_map, List.getElem?_eq_getElem (by omega), List.getD_eq_getElem?_getD, List.getElem?_eq_getElem (by omega)]; rfl)
    refine ⟨_, rfl, q, _, rfl, SqL.of hq2, for_it (walk_enum (a := q) (xs := os.map V.int)) (fun i σ H' => ∃ (e : Nat) (v5 v6 : Option V) (rs : List Addr) (fs : List (Nat × Nat)), σ = [some (.ref p), some (.int d), some (.ref q), some (.ref L), some (.int (e : Int)), v5, v6] ∧ Same H H' ∧ H' q = some (.lst (os.map V.int)) ∧ H' L = some (.lst (rs.map V.ref)) ∧ RchI H' rs os fs ∧ fs.length ≤ i ∧ RchF os d i fs ∧ e ≤ n ∧ ∀ k < e, ∀ l, i ≤ l → l < n → os.getD k 0 < os.getD l 0 + d)
      ⟨0, none, none, [], [], rfl, S2, hq2, hL1, ⟨rfl, (fun j f h => nomatch h)⟩, Nat.le_refl _, ⟨(fun f h => nomatch h), List.Pairwise.nil, (fun l h => absurd h (Nat.not_lt_zero _))⟩, Nat.zero_le _, (fun k h => absurd h (Nat.not_lt_zero _))⟩ (fun i σ H' _ z => let ⟨_, _, _, _, _, _, _, z, _⟩ := z; SqL.of z) ?_ ?_⟩
    · rintro i x σ H3 H4 hi ⟨e, v5, v6, rs, fs, rfl, S3, hq3, hL3, tp, hfl, hF, hen, hlow⟩ ⟨T2, x1, y1, rfl, hT, rfl, hx1, hy1⟩
      obtain rfl := Option.some.inj hx1
      rw [List.length_map, hol] at hi
      obtain ⟨y, hy, rfl⟩ := map_of hy1
      have hyg : os.getD i 0 = y := by rw [List.getD_eq_getElem?_getD, hy]; rfl
      have sT := same_new (o := .tup [V.int (i : Nat), .int y]) hT
      have S4 := S3.trans sT
      have hq4 := sT _ _ hq3
      have hL4 := sT _ _ hL3
      have tp4 := tp.kx fun r xs e => sT r _ e
      refine ⟨T2, _, rfl, SqT.of upd_same, rfl, _, _, rfl, _, _, rfl, rfl, ?_⟩
      generalize (upd H3 T2 (.tup [V.int (i : Nat), .int y])) = H4 at S4 hq4 hL4 tp4 ⊢
      clear sT hT S3 hq3 hL3 tp hx1 hy1
      subst hyg
      -- the first attempt that lies far enough
      refine ⟨fun m σ H' => H' = H4 ∧ ∃ e : Nat, m = n - e ∧ e ≤ n ∧ σ = [some (.ref p), some (.int d), some (.ref q), some (.ref L), some (.int (e : Int)), some (.int (i : Nat)), some (.int (os.getD i 0))] ∧ ∀ k < e, os.getD k 0 < os.getD i 0 + d,
        ⟨n - e, rfl, e, rfl, hen, rfl, fun k hk => hlow k hk i (Nat.le_refl _) hi⟩, ?_⟩
      rintro m σ H' ⟨rfl, e, rfl, hen, rfl, hlow2⟩
      have low2 : ∀ k < e, ∀ l, i + 1 ≤ l → l < n → os.getD k 0 < os.getD l 0 + d := fun k hk l hl1 hl2 => by
        have := hlow2 k hk
        have := hasc i l (by omega) (by omega)
        omega
      refine ⟨_, rfl, _, rfl, q, _, rfl, .inl (SqL.of hq4), _, _, rfl, rfl, _, rfl, ?_⟩
      rw [List.length_map, hol]
      by_cases he : e < n
      · refine iteTb (decide_eq_true (by omega)) ?_
        refine ⟨_, rfl, _, rfl, q, _, _, _, rfl, rfl, SqL.of hq4, at_ e he, _, rfl, _, rfl, _, _, rfl, rfl, _, _, rfl, rfl, _, rfl, ?_⟩
        by_cases hlt : os.getD e 0 < os.getD i 0 + d
        · refine iteTb (decide_eq_true hlt) ?_
          refine ⟨fun σ' H2 => H2 = H' ∧ σ' = [some (.ref p), some (.int d), some (.ref q), some (.ref L), some (.int ((e : Int) + 1)), some (.int (i : Nat)), some (.int (os.getD i 0))], ?_, ⟨_, rfl, _, _, rfl, rfl, rfl, rfl⟩⟩
          rintro σ' H2 ⟨rfl, rfl⟩
          refine ⟨n - (e + 1), by omega, rfl, e + 1, rfl, by omega, rfl, fun k hk => ?_⟩
          by_cases hke : k < e
          · exact hlow2 k hke
          · rw [show k = e by omega]
            exact hlt
        · refine iteFb (decide_eq_false hlt) ?_
          -- it is put down
          refine ⟨_, rfl, _, rfl, q, _, rfl, .inl (SqL.of hq4), _, _, rfl, rfl, _, rfl, iteTb (decide_eq_true (by rw [List.length_map, hol]; omega)) ?_⟩
          refine ⟨_, rfl, .inl ⟨rfl, _, SqL.of hL4⟩, _, rfl, _, rfl, q, _, _, _, rfl, rfl, SqL.of hq4, at_ e he, _, rfl, _, _, rfl, rfl, _, rfl, _, rfl, (by show 2 ≤ sizeLine; decide), fun u hu => ⟨(by show 2 ≤ sizeLine; decide), fun t2 ht2 => ?_⟩⟩
          have s1 := same_new (o := .tup [.int (e : Int), .int (i : Nat)]) hu
          have hu1 : (upd H' u (.tup [.int (e : Int), .int (i : Nat)])) u = some (.tup [.int (e : Int), .int (i : Nat)]) := upd_same
          generalize upd H' u (.tup [.int (e : Int), .int (i : Nat)]) = H5 at ht2 s1 hu1 ⊢
          have s2 := same_new (o := .tup [.int (os.getD e 0 - os.getD i 0), .ref u]) ht2
          have ht21 : (upd H5 t2 (.tup [.int (os.getD e 0 - os.getD i 0), .ref u])) t2 = some (.tup [.int (os.getD e 0 - os.getD i 0), .ref u]) := upd_same
          have hu2 := s2 _ _ hu1
          have s12 := s1.trans s2
          generalize upd H5 t2 (.tup [.int (os.getD e 0 - os.getD i 0), .ref u]) = H6 at ht21 hu2 s12 ⊢
          have hL6 := s12 _ _ hL4
          refine ⟨L, _, _, rfl, rfl, hL6, by rw [List.length_map, tp4.1]; exact small1000 (by omega), ?_⟩
          have nt : ∀ (y : Addr) (xs : List V), H6 y = some (.tup xs) → upd H6 L (.lst (rs.map V.ref ++ [V.ref t2])) y = some (.tup xs) := fun y xs e => by
            rw [upd_ne (ne_of e hL6 (by intro z; cases z))]
            exact e
          refine ⟨e, _, _, rs ++ [t2], fs ++ [(e, i)], rfl, fun b u' e' => ?_, by rw [upd_ne nqL]; exact s12 _ _ hq4, by rw [upd_same, List.map_append]; rfl, ?_, by rw [List.length_append, List.length_singleton]; omega, ⟨?_, ?_, ?_⟩, by omega, low2⟩
          · rw [upd_ne (ne_of_none e' hLH)]
            exact s12 _ _ (S4 _ _ e')
          · exact RchI.snoc ((tp4.kx fun r xs e => s12 r _ e).kx nt) (nt _ _ ht21) (nt _ _ hu2)
          · intro f hf
            rcases List.mem_append.mp hf with hf | hf
            · obtain ⟨a1, a2⟩ := hF.inn f hf
              exact ⟨by omega, a2⟩
            · rw [List.mem_singleton.mp hf]
              refine ⟨by show i < i + 1; omega, by show e < os.length; omega, by show d + os.getD i 0 ≤ os.getD e 0; omega, fun k hk => ?_⟩
              have := hlow2 k hk
              show os.getD k 0 < d + os.getD i 0
              omega
          · refine List.pairwise_append.mpr ⟨hF.srt, List.pairwise_singleton .., fun f hf g hg => ?_⟩
            rw [List.mem_singleton.mp hg]
            exact (hF.inn f hf).1
          · intro l hl e2 he2 h
            by_cases hli : l < i
            · obtain ⟨e', he'⟩ := hF.all l hli e2 he2 h
              exact ⟨e', List.mem_append_left _ he'⟩
            · rw [show l = i by omega]
              exact ⟨e, List.mem_append_right _ (List.mem_singleton.mpr rfl)⟩
      · refine iteFb (decide_eq_false (by omega)) (iteF ?_)
        refine ⟨_, rfl, _, rfl, q, _, rfl, .inl (SqL.of hq4), _, _, rfl, rfl, _, rfl, iteFb (decide_eq_false (by rw [List.length_map, hol]; omega)) ?_⟩
        refine ⟨e, _, _, rs, fs, rfl, S4, hq4, hL4, tp4, by omega, ⟨fun f hf => ?_, hF.srt, fun l hl e2 he2 h => ?_⟩, hen, low2⟩
        · obtain ⟨a1, a2⟩ := hF.inn f hf
          exact ⟨by omega, a2⟩
        · by_cases hli : l < i
          · exact hF.all l hli e2 he2 h
          · exfalso
            rw [show l = i by omega] at h
            have := hlow2 e2 (by omega)
            omega
    · rintro σ H3 ⟨e, v5, v6, rs, fs, rfl, S3, hq3, hL3, tp, hfl, hF, hen, hlow⟩
      rw [List.length_map, hol] at hF hfl
      exact ⟨_, rfl, k L rs fs H3 hLH S3 hfl hL3 tp hF⟩
end
end RS
/-! ### a list of pairs, filtered -/
namespace RS
open PySem L2
theorem sel_filter {α : Type} (xs : List α) (f : α → Bool) (h : α → V) : ∀ i, i ≤ xs.length → selTo (fun j : Nat => (xs[j]?).bind fun c => if f c = true then some (h c) else none) i = ((xs.take i).filter f).map h
  | 0, _ => rfl
  | i + 1, hi => by
    rw [selTo_succ, sel_filter xs f h i (by omega), List.take_add_one, List.filter_append, List.map_append]
    congr 1
    rw [List.getElem?_eq_getElem (by omega)]
    show (if f xs[i] = true then some (h xs[i]) else none).toList = _
    cases e : f xs[i] <;> simp [e]
def selU (f : Pr → Bool) (us : List Addr) (ps : List Pr) : List Addr := ((us.zip ps).filter fun z => f z.2).map fun z => z.1
theorem TupsI.tail {H : Hp} {u : Addr} {us : List Addr} {p : Pr} {ps : List Pr} (t : TupsI H (u :: us) (p :: ps)) : H u = some (.tup [.int p.1, .int p.2]) ∧ TupsI H us ps := by
  obtain ⟨r, e1, e2⟩ := t.2 0 p rfl
  cases (Option.some.inj e1 : u = r)
  exact ⟨e2, Nat.succ.inj t.1, fun j q e => t.2 (j + 1) q e⟩
theorem TupsI.cons {H : Hp} {u : Addr} {us : List Addr} {p : Pr} {ps : List Pr} (h : H u = some (.tup [.int p.1, .int p.2])) (t : TupsI H us ps) : TupsI H (u :: us) (p :: ps) :=
  ⟨congrArg Nat.succ t.1, fun j q e => match j, e with
    | 0, e => ⟨u, rfl, by cases (Option.some.inj e : p = q); exact h⟩
    | j + 1, e => t.2 j q e⟩
theorem TupsI.filter {H : Hp} (f : Pr → Bool) : ∀ {us : List Addr} {ps : List Pr}, TupsI H us ps → TupsI H (selU f us ps) (ps.filter f)
  | [], [], _ => TupsI.nil
  | [], _ :: _, t => nomatch t.1
  | _ :: _, [], t => nomatch t.1
  | u :: us, p :: ps, t => by
    obtain ⟨h1, h2⟩ := t.tail
    have ih := TupsI.filter f h2
    unfold selU at ih ⊢
    rw [List.zip_cons_cons, List.filter_cons, List.filter_cons]
    by_cases h : f p = true
    · rw [if_pos h, if_pos h]
      exact TupsI.cons h1 ih
    · rw [if_neg h, if_neg h]
      exact ih
theorem zip_at {us : List Addr} {ps : List Pr} {i : Nat} {u : Addr} {p : Pr} (h1 : us[i]? = some u) (h2 : ps[i]? = some p) : (us.zip ps)[i]? = some (u, p) := by
  rw [List.getElem?_zip_eq_some]
  exact ⟨h1, h2⟩
section
variable {K : PySem.W.Frag} {a : Addr} {g : TG} {tt : TT} {te : TE} {vs : List Nat} {σ : L2.St} {H1 : Hp} {D : Addr} {Qd : Hp → Prop}
/-- a comprehension that keeps some of a list of pairs -/
theorem lc_tup {us : List Addr} {ps : List Pr} (f : Pr → Bool) (hx : SqL K H1 a (us.map V.ref)) (tp : TupsI H1 us ps) (hD : H1 D = none) (hn : us.length ≤ 100000)
    (hs : ∀ (i : Nat) (u : Addr) (p : Pr) (H : Hp) (Q : Option V → Hp → Prop), ps[i]? = some p → H u = some (.tup [.int p.1, .int p.2]) → Same H1 H → (Q (if f p = true then some (.ref u) else none) H) → g (.ref u) (wipe σ vs) H fun σ2 H2 => wipe σ2 vs = wipe σ vs ∧ tt σ2 H2 fun b H3 =>
      if b = true then te σ2 H3 fun y H4 => Q (some y) H4 else Q none H3)
    (hd : ∀ H, Same H1 H → H D = some (.lst ((selU f us ps).map V.ref)) → TupsI H (selU f us ps) (ps.filter f) → Qd H) :
    ∃ W : Nat → Nat → Hp → Prop, (∃ m, W 0 m (upd H1 D (.lst []))) ∧ ∀ i m H, W i m H →
      ((Itl K a).stop i H ∧ Qd H) ∨ ((Itl K a).go i H ∧ ∃ Nx : Hp → Prop, (∀ H', Nx H' → ∃ m', m' < m ∧ W (i + 1) m' H') ∧ ∀ x H', (Itl K a).yld i H x H' → g x (wipe σ vs) H' fun σ2 H2 => wipe σ2 vs = wipe σ vs ∧ tt σ2 H2 fun b H3 =>
        if b = true then te σ2 H3 fun y H4 => ∃ acc, H4 D = some (.lst acc) ∧ acc.length < sizeLine ∧ Nx (upd H4 D (.lst (acc ++ [y]))) else Nx H3) := by
  have hz : (us.zip ps).length = us.length := by rw [List.length_zip, tp.1, Nat.min_self]
  refine lc_sel (fun j : Nat => ((us.zip ps)[j]?).bind fun c => if f c.2 = true then some (V.ref c.1) else none) hx hD (by rw [List.length_map]; exact hn) (fun i x H Q hi S q => ?_) (fun H S h => hd H S ?_ (tp.filter f |>.same S))
  · rw [List.getElem?_map] at hi
    cases e : us[i]? with
    | none => rw [e] at hi; cases hi
    | some u =>
      rw [e] at hi
      cases hi
      have hlt := (List.getElem?_eq_some_iff.mp e).1
      have hp : ps[i]? = some (ps[i]'(by rw [← tp.1]; exact hlt)) := List.getElem?_eq_getElem _
      obtain ⟨v, e1, e2⟩ := tp.2 i _ hp
      rw [e] at e1
      cases e1
      have hq := q H (Same.refl H)
      simp only [zip_at e hp] at hq
      exact hs i u _ H Q hp (S _ _ e2) S hq
  · rw [h, List.length_map, ← hz, sel_filter (us.zip ps) (fun c => f c.2) (fun c => V.ref c.1) _ (Nat.le_refl _), List.take_length]
    unfold selU
    rw [List.map_map]
    rfl
end
end RS
namespace RS
open PySem L2
/-- which pair stands at a tuple -/
def kOf (H : Hp) : V → Int × Int
  | .ref u => match H u with
    | some (.tup [.int a, .int b]) => (a, b)
    | _ => (0, 0)
  | _ => (0, 0)
theorem kOf_at {H : Hp} {u : Addr} {a b : Int} (h : H u = some (.tup [.int a, .int b])) : kOf H (.ref u) = (a, b) := by
  simp only [kOf, h]
theorem tups_srtd {H : Hp} {us : List Addr} {ps : List Pr} (t : TupsI H us ps) (h : ps.Pairwise (fun p q => p.1 < q.1)) : SrtO.Srtd (ltP (kOf H)) (us.map V.ref) := by
  show (us.map V.ref).Pairwise _
  rw [List.pairwise_iff_getElem]
  intro i j hi hj hij
  have hi1 : i < us.length := by simpa using hi
  have hj1 : j < us.length := by simpa using hj
  have hpi : ps[i]? = some (ps[i]'(by rw [← t.1]; exact hi1)) := List.getElem?_eq_getElem _
  have hpj : ps[j]? = some (ps[j]'(by rw [← t.1]; exact hj1)) := List.getElem?_eq_getElem _
  obtain ⟨u, e1, e2⟩ := t.2 i _ hpi
  obtain ⟨v, e3, e4⟩ := t.2 j _ hpj
  have hlt := List.pairwise_iff_getElem.mp h i j (by rw [← t.1]; exact hi1) (by rw [← t.1]; exact hj1) hij
  rw [List.getElem?_eq_getElem hi1] at e1
  rw [List.getElem?_eq_getElem hj1] at e3
  rw [List.getElem_map, List.getElem_map, Option.some.inj e1, Option.some.inj e3]
  show SrtO.lexB (kOf H (V.ref v)) (kOf H (V.ref u)) = false
  rw [kOf_at e2, kOf_at e4]
  refine SrtO.lexB_no.mpr ?_
  omega
section
variable {P : Program} {w : World} {K : PySem.W.Frag} {mg : Str → Option Value} {base : Heap}
/-! ### shared_attempts, of any tail -/
def spSg (C : Addr) : Sp := fun vs H Q _ => ∃ (p g t o : Addr) (gs : List Int) (tl : Tl) (d : Int), vs = [.ref p, .int d] ∧ RuleAt C H p g t o gs tl ∧ 1 ≤ d ∧ d < 2 ^ 150 ∧
  ∀ q w1 w2 us vs ps H', H q = none → H w1 = none → H w2 = none → w1 ≠ w2 → q ≠ w1 → q ≠ w2 → Same H H' → H' q = some (.tup [.ref w1, .ref w2]) → H' w1 = some (.lst (us.map V.ref)) → H' w2 = some (.lst (vs.map V.ref)) → TupsI H' us (ps.filter (sglB gs tl)) → TupsI H' vs (ps.filter fun p => !sglB gs tl p) → ps.length ≤ 240 → SharedF gs tl d ps → Q (.ref q) H'
def shrN : List Str := ["rule", "distance", "pairs", "first", "difference", "pair"]
theorem scSg : FnScope shrN ["rule", "distance"] (defScope s_shared_attempts) := ⟨rfl, rfl, rfl, by decide +kernel, rfl, by decide +kernel, by decide +kernel⟩
theorem ok_sg {f C fC fR fF : Addr} {fd fdC fdR fdF : FuncData} (F : Fun K "shared_attempts" "shared_attempts" s_shared_attempts f fd) (T : Txt K mg C) (GC : FnOk P w K mg base CX0 2 fC fdC ["distance"] spCkD) (bC : Binds K fdC ["distance"] []) (mC : mg "_check_distance" = some (.ref fC)) (kC : PySem.W.keepIn K (.ref fC) = true)
    (GR : FnOk P w K mg base CX0 7 fR fdR ["rule", "distance"] (spRg C)) (bR : Binds K fdR ["rule", "distance"] []) (mR : mg "_reaching" = some (.ref fR)) (kR : PySem.W.keepIn K (.ref fR) = true)
    (GF : FnOk P w K mg base CX0 1 fF fdF ["self"] (spFRA C)) (bF : Binds K fdF ["self"] []) (mF : Meth K C "first_repeating" fF) : FnOk P w K mg base CX0 8 f fd ["rule", "distance"] (spSg C) := by
  refine F.ok scSg (fun vs H Q E h => ?_) (fun cdv A outer s H vs Q E hr h => ?_)
  · obtain ⟨p, g, t, o, gs, tl, d, rfl, _⟩ := h
    rfl
  · obtain ⟨p, g, t, o, gs, tl, d, rfl, R, h1, h2, k⟩ := h
    have hr1 := hr.mono (show 1 ≤ 7 by decide)
    have hr2 := hr.mono (show 2 ≤ 7 by decide)
    refine ⟨_, (pss_cons (ps_expr (pe_call GC hr2 rfl mC kC bC .nil pass0 (pa_cons (pv 1) pa_nil))) (pss_cons (ps_set (i := 2) scSg.nd rfl (Or.inl rfl) (pe_callB cr_sortedPO (by rfl) T.sorted (by decide +kernel) (pa_cons (pe_lc (own := [("difference", 4), ("pair", 5)]) (g := gTup K 2 (gCons (gName 4) (gCons (gName 5) gNil))) rfl scSg.nd (pi_list (pe_call GR hr rfl mR kR bR .nil pass0 (pa_cons (pv 0) (pa_cons (pv 1) pa_nil)))) (blkOk_by (own := [("difference", 4), ("pair", 5)]) (N := shrN) (sc := defScope s_shared_attempts) (by decide +kernel))
        (fun _ _ _ _ _ => pg_tup rfl (pgs_cons (pg_name (i := 4) scSg.nd rfl (Or.inl rfl)) (pgs_cons (pg_name (i := 5) scSg.nd rfl (Or.inl rfl)) pgs_nil))) (fun _ _ _ _ _ => pts_one (pt_cmpR op_eq (pv 4) (pv 1) (nomark _))) (fun _ _ _ _ _ => pv 5)) pa_nil))) (pss_cons (ps_set (i := 3) scSg.nd rfl (Or.inr rfl) (pe_meth0 (pv 0) T.cl mF GF hr1 bF .nil pass0)) (pss_cons (ps_if (pt_cmpR op_isN (pv 3) pe_non (nomark _)) (pss_one (ps_ret (pe_tup (pa_cons (pv 2) (pa_cons (pe_lst pa_nil) pa_nil))))) pss_nil) (pss_one (ps_ret (pe_tup (pa_cons (pe_lc (own := [("pair", 5)]) (g := gName 5) rfl scSg.nd (pi_list (pv 2)) (blkOk_by (own := [("pair", 5)]) (N := shrN) (sc := (defScope s_shared_attempts)) (by decide +kernel)) (fun _ _ _ _ _ => (pg_name (i := 5) scSg.nd rfl (Or.inl rfl))) (fun _ _ _ _ _ => pts_one (pt_cmpR op_lt (pe_ixTK K (by rfl) (pv 5) pe_int) (pv 3) (nomark _))) (fun _ _ _ _ _ => (pv 5))) (pa_cons (pe_lc (own := [("pair", 5)]) (g := gName 5) rfl scSg.nd (pi_list (pv 2)) (blkOk_by (own := [("pair", 5)]) (N := shrN) (sc := (defScope s_shared_attempts)) (by decide +kernel)) (fun _ _ _ _ _ => (pg_name (i := 5) scSg.nd rfl (Or.inl rfl))) (fun _ _ _ _ _ => pts_one (pt_cmpR op_ge (pe_ixTK K (by rfl) (pv 5) pe_int) (pv 3) (nomark _))) (fun _ _ _ _ _ => (pv 5))) pa_nil))))))))), ?_⟩
    have okG := R.okG
    have okT := R.okT
    refine ⟨_, rfl, d, rfl, h1, ?_⟩
    refine ⟨_, rfl, _, rfl, p, g, t, o, gs, tl, d, rfl, R, h1, h2, fun q rs fs H1 hq S1 hlf hq1 tpR hF => ?_⟩
    have hSh := sharedF_of okG okT hF
    refine ⟨q, rfl, ⟨_, SqL.of hq1⟩, fun D hD => lc_list (a := q) (xs := rs.map V.ref) (fun i H' => Same H1 H' ∧ ∃ us, H' D = some (.lst (us.map V.ref)) ∧ us.length ≤ i ∧ TupsI H' us (selG gs tl d (fs.take i))) ⟨same_new hD, [], upd_same, Nat.le_refl _, TupsI.nil⟩ (fun i H' _ z => SqL.of (z.1 _ _ hq1)) (fun i x H2 hx z => ?_) (fun H2 z => ?_)⟩
    · obtain ⟨S2, us, hus, hul, tp⟩ := z
      have hi := (List.getElem?_eq_some_iff.mp hx).1
      rw [List.length_map] at hi
      have hfi : fs[i]? = some (fs[i]'(by rw [← tpR.1]; exact hi)) := List.getElem?_eq_getElem _
      generalize fs[i]'(by rw [← tpR.1]; exact hi) = fi at hfi
      obtain ⟨tt, u, e1, e2, e3⟩ := tpR.2 i fi hfi
      rw [List.getElem?_map, e1] at hx
      cases hx
      have ht2 := S2 _ _ e2
      have hu2 := S2 _ _ e3
      refine ⟨tt, _, rfl, SqT.of ht2, rfl, _, _, rfl, _, _, rfl, rfl, rfl, ?_⟩
      refine ⟨_, rfl, _, rfl, rfl, _, rfl, ?_⟩
      have esel : selG gs tl d (fs.take (i + 1)) = if off gs tl fi.1 - off gs tl fi.2 = d then selG gs tl d (fs.take i) ++ [toPr fi] else selG gs tl d (fs.take i) := by
        rw [List.take_add_one, hfi]
        exact selG_snoc gs tl d (fs.take i) fi
      by_cases he : off gs tl fi.1 - off gs tl fi.2 = d
      · refine iteTb (decide_eq_true (by rw [he])) ?_
        rw [if_pos he] at esel
        have nt : ∀ (y : Addr) (xs : List V), H2 y = some (.tup xs) → upd H2 D (.lst (us.map V.ref ++ [V.ref u])) y = some (.tup xs) := fun y xs e => by
          rw [upd_ne (ne_of e hus (by intro z; cases z))]
          exact e
        exact ⟨_, rfl, _, hus, by rw [List.length_map]; exact small1000 (by have := tpR.1; omega), same_app hD S2, us ++ [u], by rw [upd_same, List.map_append]; rfl, by rw [List.length_append, List.length_singleton]; omega, by rw [esel]; exact (tp.kx nt).snoc (nt _ _ hu2)⟩
      · refine iteFb (decide_eq_false fun h => he (V.int.inj h)) ?_
        rw [if_neg he] at esel
        exact ⟨S2, us, hus, by omega, by rw [esel]; exact tp⟩
    obtain ⟨S2, us, hus, hul, tp⟩ := z
    rw [List.length_map, tpR.1] at hul
    rw [List.length_map, tpR.1, List.take_length] at tp
    have hps : (selG gs tl d fs).length ≤ 240 := by
      rw [← tp.1]
      omega
    generalize selG gs tl d fs = ps at hSh tp hps
    refine ⟨D, us.map V.ref, kOf H2, rfl, SqL.of hus, fun x hx => ?_, fun ys so hys hst hso => ?_⟩
    · obtain ⟨u, hu, rfl⟩ := List.mem_map.mp hx
      obtain ⟨j, hj, rfl⟩ := List.mem_iff_getElem.mp hu
      have hpj : ps[j]? = some (ps[j]'(by rw [← tp.1]; exact hj)) := List.getElem?_eq_getElem _
      obtain ⟨v, e1, e2⟩ := tp.2 j _ hpj
      rw [List.getElem?_eq_getElem hj] at e1
      cases e1
      exact ⟨_, rfl, by rw [kOf_at e2]; exact e2⟩
    have ey : ys = us.map V.ref := SrtO.stb_uniq (ltP_swo _) hys (tups_srtd tp (hSh.fst okG okT)) hst
    subst ey
    have s3 := same_new (o := .lst (us.map V.ref)) hso
    have hso3 := upd_same (H := H2) (a := so) (o := .lst (us.map V.ref))
    have tp3 := tp.same s3
    have hsoH : H so = none := (S1.trans S2).free hso
    have S3 := (S1.trans S2).trans s3
    generalize (upd H2 so (.lst (us.map V.ref))) = H3 at hso3 tp3 S3 ⊢
    clear s3 hso hst hys tp hus tpR
    have R3 := R.mono S3
    obtain ⟨dx, hob⟩ := R3.ob
    refine ⟨_, rfl, p, dx, _, rfl, hob, flds_no _ _ _ (by decide +kernel) (by decide +kernel) (by decide +kernel), p, g, t, o, gs, tl, rfl, R3, ?_⟩
    by_cases hrep : ∃ m, tl = .rep m
    · obtain ⟨m, rfl⟩ := hrep
      refine ⟨_, rfl, rfl, _, rfl, iteFb rfl ?_⟩
      have hul2 : us.length ≤ 240 := by rw [tp3.1]; exact hps
      refine ⟨_, rfl, so, rfl, ⟨_, SqL.of hso3⟩, fun D1 hD1 => lc_tup (sglB gs (.rep m)) (SqL.of hso3) tp3 hD1 (by omega) (fun i u pp H4 Q4 hp hu S4 q => ?_) (fun H4 S4 hD4 tp4 => ?_)⟩
      · refine ⟨rfl, ?_⟩
        refine ⟨_, rfl, u, _, _, .int pp.2, rfl, rfl, SqT.of hu, atI_nat (j := 1) rfl, _, rfl, _, _, rfl, rfl, _, rfl, ?_⟩
        by_cases hc : pp.2 < ((gs.length - m : Nat) : Int)
        · have q : Q4 (if decide (pp.2 < ((gs.length - m : Nat) : Int)) = true then some (V.ref u) else none) H4 := q
          rw [if_pos (decide_eq_true hc)] at q
          exact iteTb (decide_eq_true hc) ⟨_, rfl, q⟩
        · have q : Q4 (if decide (pp.2 < ((gs.length - m : Nat) : Int)) = true then some (V.ref u) else none) H4 := q
          rw [if_neg (by rw [decide_eq_false hc]; decide)] at q
          exact iteFb (decide_eq_false hc) q
      have hso4 := S4 _ _ hso3
      have tp34 := tp3.same S4
      refine ⟨_, rfl, so, rfl, ⟨_, SqL.of hso4⟩, fun D2 hD2 => lc_tup (fun p => !sglB gs (.rep m) p) (SqL.of hso4) tp34 hD2 (by omega) (fun i u pp H5 Q5 hp hu S5 q => ?_) (fun H5 S5 hD5 tp5 => ?_)⟩
      · refine ⟨rfl, ?_⟩
        refine ⟨_, rfl, u, _, _, .int pp.2, rfl, rfl, SqT.of hu, atI_nat (j := 1) rfl, _, rfl, _, _, rfl, rfl, _, rfl, ?_⟩
        have q : Q5 (if (!decide (pp.2 < ((gs.length - m : Nat) : Int))) = true then some (V.ref u) else none) H5 := q
        by_cases hc : ((gs.length - m : Nat) : Int) ≤ pp.2
        · rw [if_pos (by rw [decide_eq_false (by omega)]; rfl)] at q
          exact iteTb (decide_eq_true hc) ⟨_, rfl, q⟩
        · rw [if_neg (by rw [decide_eq_true (show pp.2 < ((gs.length - m : Nat) : Int) by omega)]; decide)] at q
          exact iteFb (decide_eq_false hc) q
      have hD45 := S5 _ _ hD4
      have tp45 := tp4.same S5
      refine ⟨(by show 2 ≤ sizeLine; decide), fun q9 hq9 => ?_⟩
      have s9 := same_new (o := .tup [.ref D1, .ref D2]) hq9
      have n12 : D1 ≠ D2 := fun z => by rw [← z] at hD2; rw [hD4] at hD2; cases hD2
      have S35 := S4.trans S5
      exact k q9 D1 D2 _ _ ps _ (S3.free (S35.free hq9)) (S3.free hD1) (S3.free (S4.free hD2)) n12 (ne_of_none hD45 hq9).symm (ne_of_none hD5 hq9).symm ((S3.trans S35).trans s9) upd_same (s9 _ _ hD45) (s9 _ _ hD5) (tp45.same s9) (tp5.same s9) hps hSh
    have hnr : ∀ m, tl ≠ .rep m := fun m e => hrep ⟨m, e⟩
    have hfr : frV gs tl = .non := by
      cases tl with
      | rep m => exact absurd rfl (hnr m)
      | fin => rfl
      | times b => rfl
    have hsg : ∀ p, sglB gs tl p = true := fun p => by
      cases tl with
      | rep m => exact absurd rfl (hnr m)
      | fin => rfl
      | times b => rfl
    rw [hfr]
    refine ⟨_, rfl, rfl, _, rfl, iteTb rfl ?_⟩
    refine ⟨_, rfl, (by show 0 ≤ sizeLine; decide), fun e0 he0 => ?_⟩
    have s4 := same_new (o := .lst []) he0
    have he01 : (upd H3 e0 (.lst [])) e0 = some (.lst []) := upd_same
    have nse : so ≠ e0 := ne_of_none hso3 he0
    have hso4 := s4 _ _ hso3
    have tp4 := tp3.same s4
    have he0H := S3.free he0
    have S4 := S3.trans s4
    generalize upd H3 e0 (.lst []) = H4 at he01 hso4 tp4 S4 ⊢
    refine ⟨(by show 2 ≤ sizeLine; decide), fun q9 hq9 => ?_⟩
    have s5 := same_new (o := .tup [.ref so, .ref e0]) hq9
    have f1 : ps.filter (sglB gs tl) = ps := List.filter_eq_self.mpr fun p _ => hsg p
    have f2 : (ps.filter fun p => !sglB gs tl p) = [] := List.filter_eq_nil_iff.mpr fun p _ z => by rw [hsg p] at z; cases z
    refine k q9 so e0 us [] ps _ (S4.free hq9) hsoH he0H nse (ne_of_none hso4 hq9).symm (ne_of_none he01 hq9).symm (S4.trans s5) upd_same (s5 _ _ hso4) (s5 _ _ he01) ?_ ?_ hps hSh
    · rw [f1]
      exact tp4.same s5
    · rw [f2]
      exact TupsI.nil
end
end RS
namespace RS
open PySem L2 PySem.Spec PyProof.Rows PySem.W
/-! ### the least of tuples of a difference and a pair -/
def tripD (x : Int × Int × Int) : PyData := .tuple [.int x.1, pairD x.2]
def tLt (x y : Int × Int × Int) : Prop := x.1 < y.1 ∨ (x.1 = y.1 ∧ (x.2.1 < y.2.1 ∨ (x.2.1 = y.2.1 ∧ x.2.2 < y.2.2)))
theorem trip_lt (x y : Int × Int × Int) : dataLt (tripD x) (tripD y) = true ↔ tLt x y := by
  obtain ⟨a, b, c⟩ := x
  obtain ⟨a', b', c'⟩ := y
  have h0 : PyData.eqv (.int a) (.int a') = decide (a = a') := rfl
  have h1 : PyData.eqv (pairD (b, c)) (pairD (b', c')) = decide (b = b' ∧ c = c') := by
    show (decide (b = b') && (decide (c = c') && true)) = _
    by_cases h1 : b = b' <;> by_cases h2 : c = c' <;> simp [h1, h2]
  have h2 : dataLt (pairD (b, c)) (pairD (b', c')) = decide (b < b' ∨ (b = b' ∧ c < c')) := by unfold pairD; rw [dataLt_ii]
  have h3 : dataLt (.int a) (.int a') = decide (a < a') := dataLt_int a a'
  unfold tripD tLt
  rw [dataLt_pair (by rfl) (by rfl), h0, h1, h2, h3]
  by_cases e : a = a'
  · rw [decide_eq_true e, if_pos rfl]
    by_cases e2 : b = b' ∧ c = c'
    · rw [decide_eq_true e2, if_pos rfl]
      simp
      omega
    · rw [decide_eq_false e2, if_neg (by decide), decide_eq_true_iff]
      simp only
      omega
  · rw [decide_eq_false e, if_neg (by decide), decide_eq_true_iff]
    simp only
    omega
theorem trips_alike (ps : List (Int × Int × Int)) : AlikeD (ps.map tripD) := by
  refine ⟨⟨fun x hx y hy => ?_, fun x hx => ?_⟩, ?_, fun e he => ?_⟩
  · obtain ⟨p, _, rfl⟩ := List.mem_map.mp hx
    obtain ⟨q, _, rfl⟩ := List.mem_map.mp hy
    rfl
  · obtain ⟨p, _, rfl⟩ := List.mem_map.mp hx
    exact fun z => nomatch z
  · have : PyData.depthAll (ps.map tripD) ≤ 3 := by
      induction ps with
      | nil => decide
      | cons p r ih =>
        show max _ (PyData.depthAll (r.map tripD)) ≤ 3
        have : (tripD p).depth ≤ 3 := by first | exact Nat.le_of_eq (rfl : (tripD p).depth = 3) | exact Nat.le_of_lt (Nat.lt_succ_of_le (Nat.le_of_eq (rfl : (tripD p).depth = 2)))
        omega
    omega
  · obtain ⟨p, _, rfl⟩ := List.mem_map.mp he
    rfl
theorem minD_trips : ∀ (p : Int × Int × Int) (ps : List (Int × Int × Int)), ∃ q ∈ p :: ps, minD (tripD p) (ps.map tripD) = tripD q ∧ ∀ x ∈ p :: ps, ¬ tLt x q := by
  intro p ps
  induction ps generalizing p with
  | nil => exact ⟨p, List.mem_cons_self .., rfl, fun x hx => by rw [List.mem_singleton.mp hx]; unfold tLt; omega⟩
  | cons y r ih =>
    by_cases h : tLt y p
    · obtain ⟨q, h1, h2, h3⟩ := ih y
      refine ⟨q, List.mem_cons_of_mem _ h1, ?_, fun x hx => ?_⟩
      · rw [← h2]
        unfold minD
        rw [List.map_cons, List.foldl_cons, if_pos ((trip_lt y p).mpr h)]
      · rcases List.mem_cons.mp hx with rfl | hx
        · have := h3 y (List.mem_cons_self ..)
          unfold tLt at this h ⊢
          omega
        · exact h3 x hx
    · obtain ⟨q, h1, h2, h3⟩ := ih p
      refine ⟨q, ?_, ?_, fun x hx => ?_⟩
      · rcases List.mem_cons.mp h1 with rfl | h1
        · exact List.mem_cons_self ..
        · exact List.mem_cons_of_mem _ (List.mem_cons_of_mem _ h1)
      · rw [← h2]
        unfold minD
        rw [List.map_cons, List.foldl_cons, if_neg (fun z => h ((trip_lt y p).mp z))]
      · rcases List.mem_cons.mp hx with rfl | hx
        · exact h3 x (List.mem_cons_self ..)
        · rcases List.mem_cons.mp hx with rfl | hx
          · have := h3 p (List.mem_cons_self ..)
            unfold tLt at this h ⊢
            omega
          · exact h3 x (List.mem_cons_of_mem _ hx)
theorem tripD_inj {x y : Int × Int × Int} (h : tripD x = tripD y) : x = y := by
  obtain ⟨a, b, c⟩ := x
  obtain ⟨a', b', c'⟩ := y
  unfold tripD pairD at h
  injection h with h
  injection h with h1 h2
  injection h1 with h1
  injection h2 with h2 _
  injection h2 with h2
  injection h2 with h3 h4
  injection h3 with h3
  injection h4 with h4 _
  injection h4 with h4
  simp only at h1 h3 h4
  rw [h1, h3, h4]
def fTrip (gs : List Int) (tl : Tl) (f : Nat × Nat) : Int × Int × Int := (off gs tl f.1 - off gs tl f.2, (f.1 : Int), (f.2 : Int))
theorem rchD_dp {K : PySem.W.Frag} {H : Hp} {gs : List Int} {tl : Tl} : ∀ {rs : List Addr} {fs : List (Nat × Nat)}, RchD H rs gs tl fs → DpAll K H (rs.map V.ref) ((fs.map (fTrip gs tl)).map tripD)
  | [], [], _ => .nil
  | [], _ :: _, t => nomatch t.1
  | _ :: _, [], t => nomatch t.1
  | r :: rs, p :: ps, t => by
    obtain ⟨r', u, e1, e2, e3⟩ := t.2 0 p rfl
    cases (Option.some.inj e1 : r = r')
    exact .cons (.tup (SqT.of e2) (.cons (.int _) (.cons (.tup (SqT.of e3) (.cons (.int _) (.cons (.int _) .nil))) .nil))) (rchD_dp ⟨Nat.succ.inj t.1, fun j q e => t.2 (j + 1) q e⟩)
section
variable {P : Program} {w : World} {K : PySem.W.Frag} {mg : Str → Option Value} {base : Heap}
/-! ### next_distance -/
/-- what next_distance hands over -/
def NdV (H : Hp) : Option (Int × Nat × Nat) → V → Prop
  | none, v => v = .non
  | some (D, i, j), v => ∃ t u, v = .ref t ∧ H t = some (.tup [.int D, .ref u]) ∧ H u = some (.tup [.int (i : Int), .int (j : Int)])
theorem NdV.same {H H' : Hp} {r : Option (Int × Nat × Nat)} {v : V} (h : NdV H r v) (S : Same H H') : NdV H' r v := by
  match r, h with
  | none, h => exact h
  | some (D, i, j), ⟨t, u, a, b, c⟩ => exact ⟨t, u, a, S _ _ b, S _ _ c⟩
def spNd (C : Addr) : Sp := fun vs H Q _ => ∃ (p g t o : Addr) (gs : List Int) (tl : Tl) (d : Int), vs = [.ref p, .int d] ∧ RuleAt C H p g t o gs tl ∧ 1 ≤ d ∧ d < 2 ^ 150 ∧
  ∀ r v H', NextD gs tl d r → Same H H' → NdV H' r v → Q v H'
theorem scNd : FnScope ["rule", "distance"] ["rule", "distance"] (defScope s_next_distance) := ⟨rfl, rfl, rfl, by decide +kernel, rfl, by decide +kernel, by decide +kernel⟩
theorem ok_nd {f C fC fR : Addr} {fd fdC fdR : FuncData} (F : Fun K "next_distance" "next_distance" s_next_distance f fd) (T : Txt K mg C) (GC : FnOk P w K mg base CX0 2 fC fdC ["distance"] spCkD) (bC : Binds K fdC ["distance"] []) (mC : mg "_check_distance" = some (.ref fC)) (kC : PySem.W.keepIn K (.ref fC) = true)
    (GR : FnOk P w K mg base CX0 7 fR fdR ["rule", "distance"] (spRg C)) (bR : Binds K fdR ["rule", "distance"] []) (mR : mg "_reaching" = some (.ref fR)) (kR : PySem.W.keepIn K (.ref fR) = true) : FnOk P w K mg base CX0 8 f fd ["rule", "distance"] (spNd C) := by
  refine F.ok scNd (fun vs H Q E h => ?_) (fun cdv A outer s H vs Q E hr h => ?_)
  · obtain ⟨p, g, t, o, gs, tl, d, rfl, _⟩ := h
    rfl
  · obtain ⟨p, g, t, o, gs, tl, d, rfl, R, h1, h2, k⟩ := h
    have hr2 := hr.mono (show 2 ≤ 7 by decide)
    refine ⟨_, (pss_cons (ps_expr (pe_call GC hr2 rfl mC kC bC .nil pass0 (pa_cons (pv 1) pa_nil))) (pss_one (ps_ret (pe_callBK (cr_minLD rfl hr.units) (by rfl) T.min (by decide +kernel) (pa_cons (pe_call GR hr rfl mR kR bR .nil pass0 (pa_cons (pv 0) (pa_cons (pv 1) pa_nil))) pa_nil) (pk_cons pe_non pk_nil))))), ?_⟩
    have okG := R.okG
    have okT := R.okT
    refine ⟨_, rfl, d, rfl, h1, ?_⟩
    refine ⟨_, rfl, _, rfl, p, g, t, o, gs, tl, d, rfl, R, h1, h2, fun q rs fs H1 hq S1 hlf hq1 tpR hF => ?_⟩
    refine ⟨q, _, (fs.map (fTrip gs tl)).map tripD, rfl, rfl, SqL.of hq1, rchD_dp tpR, trips_alike _, fun e => ?_, fun dd r i x e hx hd9 => ?_⟩
    · have hfs : fs = [] := List.map_eq_nil_iff.mp (List.map_eq_nil_iff.mp e)
      subst hfs
      exact k none .non H1 (nextD_none okT hF) S1 rfl
    · cases fs with
      | nil => cases e
      | cons f0 fr =>
        have e1 : tripD (fTrip gs tl f0) = dd := (List.cons.inj e).1
        have e2 : (fr.map (fTrip gs tl)).map tripD = r := (List.cons.inj e).2
        subst e1 e2
        obtain ⟨m, hm, hmin, hleast⟩ := minD_trips (fTrip gs tl f0) (fr.map (fTrip gs tl))
        rw [List.getElem?_map] at hx
        cases ex : rs[i]? with
        | none => rw [ex] at hx; cases hx
        | some u =>
          rw [ex] at hx
          cases hx
          have hi := (List.getElem?_eq_some_iff.mp ex).1
          have hfi : (f0 :: fr)[i]? = some ((f0 :: fr)[i]'(by rw [← tpR.1]; exact hi)) := List.getElem?_eq_getElem _
          generalize (f0 :: fr)[i]'(by rw [← tpR.1]; exact hi) = fi at hfi
          rw [hmin, List.getElem?_map, List.getElem?_map, hfi] at hd9
          have em : fTrip gs tl fi = m := tripD_inj (Option.some.inj hd9)
          subst em
          obtain ⟨t', u', b1, b2, b3⟩ := tpR.2 i fi hfi
          rw [ex] at b1
          cases b1
          have hN := nextD_some okG okT hF (List.mem_of_getElem? hfi) fun g2 hg2 => by
            have := hleast (fTrip gs tl g2) (List.mem_map.mpr ⟨g2, hg2, rfl⟩)
            unfold tLt fTrip at this
            simp only at this
            omega
          exact k (some (off gs tl fi.1 - off gs tl fi.2, fi.1, fi.2)) (.ref u) H1 hN S1 ⟨u, u', rfl, b2, b3⟩
end
end RS
namespace RS
open PySem L2
/-! ### what the law's turn keeps -/
structure LawAt (C : Addr) (H : Hp) (a L g p g2 t o : Addr) (cs gs : List Int) (tl : Tl) : Prop where
  R : RuleAt C H p g2 t o gs tl
  hL : H L = some (.lst (cs.map V.int))
  hg : H g = some (.lst (gs.map V.int))
  nL : L ≠ a
  ng : g ≠ a
  np : p ≠ a
  n2 : g2 ≠ a
  nt : t ≠ a
  no : o ≠ a
theorem RuleAt.kx {C a : Addr} {H H' : Hp} {p g t o : Addr} {gs : List Int} {tl : Tl} (R : RuleAt C H p g t o gs tl) (h : Kx a H H') (np : p ≠ a) (ng : g ≠ a) (nt : t ≠ a) (no : o ≠ a) : RuleAt C H' p g t o gs tl :=
  ⟨let ⟨dx, e⟩ := R.ob; ⟨dx, h _ _ np e⟩, h _ _ ng R.hg, h _ _ nt R.ht, h _ _ no R.ho, R.okG, R.okT⟩
theorem LawAt.kx {C : Addr} {H H' : Hp} {a L g p g2 t o : Addr} {cs gs : List Int} {tl : Tl} (B : LawAt C H a L g p g2 t o cs gs tl) (h : Kx a H H') : LawAt C H' a L g p g2 t o cs gs tl :=
  ⟨B.R.kx h B.np B.n2 B.nt B.no, h _ _ B.nL B.hL, h _ _ B.ng B.hg, B.nL, B.ng, B.np, B.n2, B.nt, B.no⟩
theorem LawAt.same {C : Addr} {H H' : Hp} {a L g p g2 t o : Addr} {cs gs : List Int} {tl : Tl} (B : LawAt C H a L g p g2 t o cs gs tl) (h : Same H H') : LawAt C H' a L g p g2 t o cs gs tl := B.kx (Kx.of h)
theorem made_same {H : Hp} {p dx : Addr} {o1 o2 : HO} (hp : H p = none) (hd : H dx = none) : Same H (upd (upd H dx o1) p o2) := fun b u e => by
  rw [upd_ne (ne_of_none e hp), upd_ne (ne_of_none e hd)]
  exact e
/-- the law's promise: a list of at most 63 ints is handed in, True comes out -/
def spLaw (K : PySem.W.Frag) : Sp := fun vs H Q _ => ∃ (a : Addr) (ns : List Int), vs = [.ref a] ∧ SqL K H a (ns.map V.int) ∧ ns.length ≤ 63 ∧ ∀ H', Q (.bl true) H'
/-- the cells: the first number (or 0), then some more -/
def cellsOf (n : Nat) (ns : List Int) : List Int := ns.getD 0 0 :: ((ns.drop 1).take (n - 1))
end RS
namespace RS
open PySem L2
/-- a rule none of whose parts is the source -/
structure RK (C : Addr) (H : Hp) (a p g t o : Addr) (gs : List Int) (tl : Tl) : Prop where
  R : RuleAt C H p g t o gs tl
  np : p ≠ a
  ng : g ≠ a
  nt : t ≠ a
  no : o ≠ a
theorem RK.kx {C : Addr} {H H' : Hp} {a p g t o : Addr} {gs : List Int} {tl : Tl} (B : RK C H a p g t o gs tl) (h : Kx a H H') : RK C H' a p g t o gs tl := ⟨B.R.kx h B.np B.ng B.nt B.no, B.np, B.ng, B.nt, B.no⟩
theorem RK.same {C : Addr} {H H' : Hp} {a p g t o : Addr} {gs : List Int} {tl : Tl} (B : RK C H a p g t o gs tl) (h : Same H H') : RK C H' a p g t o gs tl := B.kx (Kx.of h)
end RS
namespace RS
open PySem L2
/-! ### how many numbers have a property -/
def NumOf (P : Int → Prop) (n : Nat) : Prop := ∃ l : List Int, l.Nodup ∧ (∀ d, d ∈ l ↔ P d) ∧ l.length = n
theorem nodup_le : ∀ {l m : List Int}, l.Nodup → (∀ x ∈ l, x ∈ m) → l.length ≤ m.length
  | [], _, _, _ => Nat.zero_le _
  | x :: l, m, h, hs => by
    obtain ⟨h1, h2⟩ := List.nodup_cons.mp h
    have ih := nodup_le (l := l) (m := m.erase x) h2 fun y hy => by
      have hne : y ≠ x := fun e => h1 (e ▸ hy)
      exact (List.mem_erase_of_ne hne).mpr (hs y (List.mem_cons_of_mem _ hy))
    have hm := hs x (List.mem_cons_self ..)
    rw [List.length_erase_of_mem hm] at ih
    have : 0 < m.length := List.length_pos_of_mem hm
    rw [List.length_cons]
    omega
theorem NumOf.one {P : Int → Prop} {n k : Nat} (h : NumOf P n) (g : NumOf P k) : n = k := by
  obtain ⟨l, h1, h2, rfl⟩ := h
  obtain ⟨m, g1, g2, rfl⟩ := g
  exact Nat.le_antisymm (nodup_le h1 fun x hx => (g2 x).mpr ((h2 x).mp hx)) (nodup_le g1 fun x hx => (h2 x).mpr ((g2 x).mp hx))
theorem NumOf.congr {P Q : Int → Prop} {n : Nat} (h : NumOf P n) (e : ∀ d, P d ↔ Q d) : NumOf Q n := by
  obtain ⟨l, h1, h2, h3⟩ := h
  exact ⟨l, h1, fun d => (h2 d).trans (e d), h3⟩
theorem NumOf.nil {P : Int → Prop} (h : ∀ d, ¬ P d) : NumOf P 0 := ⟨[], List.nodup_nil, fun d => ⟨(fun z => by cases z), fun z => absurd z (h d)⟩, rfl⟩
theorem NumOf.add {P Q : Int → Prop} {n k : Nat} (h : NumOf P n) (g : NumOf Q k) (e : ∀ d, P d → Q d → False) : NumOf (fun d => P d ∨ Q d) (n + k) := by
  obtain ⟨l, h1, h2, rfl⟩ := h
  obtain ⟨m, g1, g2, rfl⟩ := g
  exact ⟨l ++ m, List.nodup_append.mpr ⟨h1, g1, fun x hx y hy z => e x ((h2 x).mp hx) (z ▸ (g2 y).mp hy)⟩, fun d => by rw [List.mem_append, h2, g2], List.length_append⟩
theorem NumOf.single (x : Int) : NumOf (fun d => d = x) 1 := ⟨[x], List.nodup_cons.mpr ⟨(fun z => by cases z), List.nodup_nil⟩, fun d => by rw [List.mem_singleton], rfl⟩
/-- those of a list without repetitions -/
theorem NumOf.list {ks : List Int} (h : ks.Nodup) (p : Int → Bool) : NumOf (fun d => d ∈ ks ∧ p d = true) (ks.filter p).length := ⟨ks.filter p, h.sublist List.filter_sublist, fun d => List.mem_filter, rfl⟩
/-- numbered ones -/
theorem NumOf.seq {P : Int → Prop} (f : Nat → Int) (inj : ∀ i j, f i = f j → i = j) {lo n : Nat} (h : ∀ d, P d ↔ ∃ i, lo ≤ i ∧ i < lo + n ∧ d = f i) : NumOf P n := by
  refine ⟨(List.range n).map fun i => f (lo + i), ?_, fun d => ?_, by rw [List.length_map, List.length_range]⟩
  · refine List.pairwise_map.mpr (List.nodup_range.imp ?_)
    intro a b hab e
    have := inj _ _ e
    omega
  · rw [h]
    constructor
    · intro hd
      obtain ⟨i, hi, rfl⟩ := List.mem_map.mp hd
      have := List.mem_range.mp hi
      exact ⟨lo + i, by omega, by omega, rfl⟩
    · rintro ⟨i, h1, h2, rfl⟩
      exact List.mem_map.mpr ⟨i - lo, List.mem_range.mpr (by omega), by rw [show lo + (i - lo) = i by omega]⟩
/-- one less: a number that is there is left out -/
theorem NumOf.drop {P : Int → Prop} {n : Nat} {x : Int} (h : NumOf P n) (hx : P x) : 0 < n ∧ NumOf (fun d => P d ∧ d ≠ x) (n - 1) := by
  obtain ⟨l, h1, h2, rfl⟩ := h
  have hm := (h2 x).mpr hx
  refine ⟨List.length_pos_of_mem hm, l.erase x, h1.erase x, fun d => ?_, List.length_erase_of_mem hm⟩
  rw [h1.mem_erase_iff, h2]
  exact And.comm
/-! ### distances -/
def IsDif (gs : List Int) (tl : Tl) (d : Int) : Prop := ∃ i j : Nat, j < i ∧ VOk gs tl i ∧ off gs tl i - off gs tl j = d
/-- by the first attempts -/
def DifB (gs : List Int) (tl : Tl) (s : Nat) (d : Int) : Prop := ∃ i j : Nat, j < i ∧ i < s ∧ off gs tl i - off gs tl j = d
def NumD (gs : List Int) (tl : Tl) (lim : Int) (n : Nat) : Prop := NumOf (fun d => IsDif gs tl d ∧ d ≤ lim) n
theorem IsDif.pos {gs : List Int} {tl : Tl} (okG : GapsOk gs) (okT : TlOk gs.length tl) {d : Int} (h : IsDif gs tl d) : 1 ≤ d := by
  obtain ⟨i, j, h1, h2, h3⟩ := h
  have := (off_iff okG okT (h2.lt (by omega)) h2).mpr h1
  omega
theorem NumD.zero {gs : List Int} {tl : Tl} (okG : GapsOk gs) (okT : TlOk gs.length tl) {lim : Int} (h : lim ≤ 0) : NumD gs tl lim 0 := NumOf.nil fun d ⟨h1, h2⟩ => by
  have := h1.pos okG okT
  omega
/-- one limit farther -/
theorem NumD.step {gs : List Int} {tl : Tl} {lim : Int} {n k : Nat} (h : NumD gs tl (lim - 1) n) (g : NumD gs tl lim k) : (IsDif gs tl lim → k = n + 1) ∧ (¬ IsDif gs tl lim → k = n) := by
  refine ⟨fun z => ?_, fun z => ?_⟩
  · refine g.one ((NumOf.add h (NumOf.single lim) (fun d a b => by have := a.2; omega)).congr fun d => ?_)
    constructor
    · rintro (⟨a, b⟩ | rfl)
      · exact ⟨a, by omega⟩
      · exact ⟨z, Int.le_refl _⟩
    · rintro ⟨a, b⟩
      by_cases e : d = lim
      · exact .inr e
      · exact .inl ⟨a, by omega⟩
  · refine g.one (h.congr fun d => ?_)
    constructor
    · rintro ⟨a, b⟩
      exact ⟨a, by omega⟩
    · rintro ⟨a, b⟩
      refine ⟨a, ?_⟩
      by_cases e : d = lim
      · exact absurd (e ▸ a) z
      · omega
/-- no distance between -/
theorem NumD.same {gs : List Int} {tl : Tl} {lo hi : Int} {n k : Nat} (h : NumD gs tl lo n) (g : NumD gs tl hi k) (hle : lo ≤ hi) (hno : ∀ d, IsDif gs tl d → lo < d → hi < d) : n = k := by
  refine h.one (g.congr fun d => ?_)
  constructor
  · rintro ⟨a, b⟩
    refine ⟨a, ?_⟩
    rcases Int.lt_or_le lo d with z | z
    · have := hno d a z
      omega
    · exact z
  · rintro ⟨a, b⟩
    exact ⟨a, by omega⟩
/-- the distances at which attempts share a slot -/
theorem SharedF.isDif {gs : List Int} {tl : Tl} (okT : TlOk gs.length tl) {d : Int} {ps : List Pr} (h : SharedF gs tl d ps) : ps = [] ↔ ¬ IsDif gs tl d := by
  constructor
  · rintro rfl ⟨i, j, h1, h2, h3⟩
    obtain ⟨i0, j0, a1, a2, a3, a4⟩ := pair_back okT j i h1 h2
    cases h.all i0 j0 a1 a2 a3 (by omega)
  · intro z
    cases ps with
    | nil => rfl
    | cons p r =>
      obtain ⟨i, j, _, a1, a2, a3, a4⟩ := h.mem p (List.mem_cons_self ..)
      exact absurd ⟨i, j, a1, a2, a4⟩ z
end RS
namespace RS
open PySem L2
/-! ### distances of growing gaps -/
def NumB (gs : List Int) (tl : Tl) (s : Nat) (lim : Int) (n : Nat) : Prop := NumOf (fun d => DifB gs tl s d ∧ d ≤ lim) n
section
variable {gs : List Int} {b : Int} (okG : GapsOk gs) (okT : TlOk gs.length (.times b))
include okG okT
theorem off_ltT {i j : Nat} : off gs (.times b) i < off gs (.times b) j ↔ i < j := off_iff okG okT (fun z => nomatch z) (fun z => nomatch z)
theorem off_leT {i j : Nat} (h : i ≤ j) : off gs (.times b) i ≤ off gs (.times b) j := by
  rcases Nat.lt_or_eq_of_le h with z | z
  · exact Int.le_of_lt ((off_ltT okG okT).mpr z)
  · rw [z]; exact Int.le_refl _
theorem off_injT {i j : Nat} (h : off gs (.times b) i = off gs (.times b) j) : i = j := by
  rcases Nat.lt_trichotomy i j with z | z | z
  · have := (off_ltT okG okT).mpr z; omega
  · exact z
  · have := (off_ltT okG okT).mpr z; omega
/-- the distances that end at an attempt, and which of them is not new -/
theorem NumB.next {n0 s low : Nat} {lim : Int} {n : Nat} (B0 : Bey gs b (preS gs) n0) (hs : n0 ≤ s) (h : NumB gs (.times b) s lim n) (hlow : low < s) (h1 : off gs (.times b) s - off gs (.times b) low ≤ lim) (h2 : ∀ l < low, lim < off gs (.times b) s - off gs (.times b) l)
    {old : Bool} (ho : old = true ↔ ∃ q : Nat, off gs (.times b) q = off gs (.times b) (s - 1) - (off gs (.times b) s - off gs (.times b) (s - 1))) :
    ∃ k, NumB gs (.times b) (s + 1) lim k ∧ (k : Int) = n + ((s : Int) - (low : Int)) - (if old = true then 1 else 0) := by
  have hlo := B0.lo
  have hl := okT.1
  -- all that end at s
  have hE : NumOf (fun d => ∃ l : Nat, low ≤ l ∧ l < s ∧ d = off gs (.times b) s - off gs (.times b) l) (s - low) := by
    refine NumOf.seq (fun l => off gs (.times b) s - off gs (.times b) l) (fun i j e => off_injT okG okT (by have e : off gs (.times b) s - off gs (.times b) i = off gs (.times b) s - off gs (.times b) j := e; omega)) (lo := low) fun d => ?_
    constructor
    · rintro ⟨l, a1, a2, a3⟩
      exact ⟨l, a1, by omega, a3⟩
    · rintro ⟨l, a1, a2, a3⟩
      exact ⟨l, a1, by omega, a3⟩
  -- those that are old
  have hold : ∀ l : Nat, l < s → DifB gs (.times b) s (off gs (.times b) s - off gs (.times b) l) → l = s - 1 ∧ old = true := by
    rintro l hls ⟨q, p, z1, z2, z3⟩
    obtain ⟨e1, e2, e3, e4⟩ := tell_late okG okT B0 (i := l) (j := s) (p := p) (q := q) hls z1 (by omega) hs (fun ⟨_, z⟩ => by omega) (by omega)
    refine ⟨e2, ho.mpr ⟨p, ?_⟩⟩
    subst e3
    rw [e2] at z3
    omega
  have hnew : old = true → DifB gs (.times b) s (off gs (.times b) s - off gs (.times b) (s - 1)) := fun z => by
    obtain ⟨q, hq⟩ := ho.mp z
    have hg := (off_ltT okG okT).mpr (show s - 1 < s by omega)
    have hlt : q < s - 1 := (off_ltT okG okT).mp (by omega)
    exact ⟨s - 1, q, hlt, by omega, by omega⟩
  have hsplit : ∀ d, (DifB gs (.times b) (s + 1) d ∧ d ≤ lim) ↔ ((DifB gs (.times b) s d ∧ d ≤ lim) ∨ ∃ l : Nat, low ≤ l ∧ l < s ∧ d = off gs (.times b) s - off gs (.times b) l) := fun d => by
    constructor
    · rintro ⟨⟨i, j, z1, z2, z3⟩, z4⟩
      by_cases e : i = s
      · subst e
        refine .inr ⟨j, ?_, z1, z3.symm⟩
        rcases Nat.lt_or_ge j low with y | y
        · have := h2 j y
          omega
        · exact y
      · exact .inl ⟨⟨i, j, z1, by omega, z3⟩, z4⟩
    · rintro (⟨⟨i, j, z1, z2, z3⟩, z4⟩ | ⟨l, z1, z2, z3⟩)
      · exact ⟨⟨i, j, z1, by omega, z3⟩, z4⟩
      · have := off_leT okG okT z1
        exact ⟨⟨s, l, z2, by omega, z3.symm⟩, by omega⟩
  cases old with
  | false =>
    refine ⟨n + (s - low), (NumOf.add h hE ?_).congr fun d => (hsplit d).symm, ?_⟩
    · rintro d ⟨z1, _⟩ ⟨l, z3, z4, rfl⟩
      have := (hold l z4 z1).2
      cases this
    · rw [if_neg (by decide)]
      omega
  | true =>
    obtain ⟨hpos, hd⟩ := hE.drop (x := off gs (.times b) s - off gs (.times b) (s - 1)) ⟨s - 1, by omega, by omega, rfl⟩
    refine ⟨n + (s - low - 1), (NumOf.add h hd ?_).congr fun d => (Iff.trans ?_ (hsplit d).symm), ?_⟩
    · rintro d ⟨z1, _⟩ ⟨⟨l, z3, z4, rfl⟩, z5⟩
      have := (hold l z4 z1).1
      subst this
      exact z5 rfl
    · constructor
      · rintro (z | ⟨z, _⟩)
        · exact .inl z
        · exact .inr z
      · rintro (z | z)
        · exact .inl z
        · by_cases e : d = off gs (.times b) s - off gs (.times b) (s - 1)
          · have hls := off_leT okG okT (show low ≤ s - 1 by omega)
            exact .inl ⟨e ▸ hnew rfl, by omega⟩
          · exact .inr ⟨z, e⟩
    · rw [if_pos rfl]
      omega
/-- the first attempts up to a limit have them all -/
theorem NumB.all {N s : Nat} {lim : Int} {n : Nat} (B : Bey gs b lim N) (hs : N - 1 ≤ s) (h : NumB gs (.times b) s lim n) : NumD gs (.times b) lim n := by
  have hlo := B.lo
  refine NumOf.congr h fun d => ?_
  constructor
  · rintro ⟨⟨i, j, z1, z2, z3⟩, z4⟩
    exact ⟨⟨i, j, z1, fun e => (by cases e), z3⟩, z4⟩
  · rintro ⟨⟨i, j, z1, _, z3⟩, z4⟩
    refine ⟨⟨i, j, z1, ?_, z3⟩, z4⟩
    rcases Nat.lt_or_ge i s with y | y
    · exact y
    · exfalso
      have a1 := off_succ okT (n := i - 1) (fun z => nomatch z)
      rw [show i - 1 + 1 = i by omega] at a1
      have a2 := gap_le okG okT (N - 2) (i - 1 - (N - 2)) (by omega)
      rw [show N - 2 + (i - 1 - (N - 2)) = i - 1 by omega] at a2
      have a3 := B.hi
      have a4 := off_leT okG okT (show j ≤ i - 1 by omega)
      omega
/-- the gap before an attempt among those up to the limit -/
theorem Bey.gapl {N s : Nat} {lim : Int} (B : Bey gs b lim N) (h1 : gs.length + 1 ≤ s) (h2 : s + 1 < N) : off gs (.times b) s - off gs (.times b) (s - 1) ≤ lim := by
  have a1 := off_succ okT (n := s - 1) (fun z => nomatch z)
  rw [show s - 1 + 1 = s by omega] at a1
  have := B.le (s - 1) (by omega) (by omega)
  omega
end
end RS
namespace RS
open PySem L2
/-! ### offsets of repeating gaps -/
theorem off_turns {gs : List Int} {m : Nat} (h1 : 1 ≤ m) (h2 : m ≤ gs.length) {i : Nat} (hi : gs.length - m ≤ i) : ∀ z : Nat, off gs (.rep m) (i + m * z) = off gs (.rep m) i + (z : Int) * per gs m
  | 0 => by rw [Nat.mul_zero, Nat.add_zero]; simp
  | z + 1 => by
    have h := off_turns h1 h2 hi z
    have g := off_per h1 h2 (i := i + m * z) (by omega)
    rw [show i + m * (z + 1) = i + m * z + m by rw [Nat.mul_succ]; omega, g, h, Int.natCast_add, Int.add_mul]
    simp
    omega
theorem off_minR {gs : List Int} {m : Nat} (okG : GapsOk gs) (okT : TlOk gs.length (.rep m)) : ∀ n : Nat, (n : Int) ≤ off gs (.rep m) n
  | 0 => by rw [off_low (Nat.zero_le _)]; exact Int.le_refl _
  | n + 1 => by
    have h1 := off_minR okG okT n
    have h2 := off_succ okT (n := n) (fun e => nomatch e)
    have h3 := gap_pos okG okT (n := n) (fun e => nomatch e)
    omega
theorem vokR {gs : List Int} {m i : Nat} : VOk gs (.rep m) i := fun e => nomatch e
theorem off_ltR {gs : List Int} {m : Nat} (okG : GapsOk gs) (okT : TlOk gs.length (.rep m)) {i j : Nat} : off gs (.rep m) i < off gs (.rep m) j ↔ i < j := off_iff okG okT vokR vokR
theorem off_injR {gs : List Int} {m : Nat} (okG : GapsOk gs) (okT : TlOk gs.length (.rep m)) {i j : Nat} (h : off gs (.rep m) i = off gs (.rep m) j) : i = j := by
  rcases Nat.lt_trichotomy i j with z | z | z
  · have := (off_ltR okG okT).mpr z; omega
  · exact z
  · have := (off_ltR okG okT).mpr z; omega
end RS
namespace RS
open PySem L2
/-! ### a dict of whole numbers by whole numbers -/
def kvI (ks : List Int) (lv : Int → Int) : List (Key × V) := ks.map fun r => ((Sum.inl r : Key), V.int (lv r))
theorem kvI_val (lv : Int → Int) (r : Int) : ∀ ks : List Int, valV (kvI ks lv) (Sum.inl r) = if r ∈ ks then some (.int (lv r)) else none
  | [] => rfl
  | x :: ks => by
    have ih := kvI_val lv r ks
    show valV (((Sum.inl x : Key), V.int (lv x)) :: kvI ks lv) (Sum.inl r) = _
    by_cases e : x = r
    · subst e
      rw [valV_pos rfl, if_pos (List.mem_cons_self ..)]
    · rw [valV_neg (fun z => e (Sum.inl.inj z)), ih]
      by_cases h : r ∈ ks
      · rw [if_pos h, if_pos (List.mem_cons_of_mem _ h)]
      · rw [if_neg h, if_neg (fun z => (List.mem_cons.mp z).elim (fun y => e y.symm) h)]
theorem kvI_put (ks : List Int) (lv : Int → Int) (r v : Int) : putK (kvI ks lv) (Sum.inl r) (.int v) = kvI (if r ∈ ks then ks else ks ++ [r]) (fun x => if x = r then v else lv x) := by
  unfold putK
  rw [valV_any, kvI_val]
  by_cases h : r ∈ ks
  · rw [if_pos h, if_pos (show (some (V.int (lv r))).isSome = true from rfl), if_pos h]
    unfold kvI
    rw [List.map_map]
    refine List.map_congr_left fun x _ => ?_
    show (if (Sum.inl x : Key) = Sum.inl r then ((Sum.inl x : Key), V.int v) else ((Sum.inl x : Key), V.int (lv x))) = ((Sum.inl x : Key), V.int (if x = r then v else lv x))
    by_cases e : x = r
    · rw [if_pos (by rw [e]), if_pos e]
    · rw [if_neg (fun z => e (Sum.inl.inj z)), if_neg e]
  · rw [if_neg h, if_neg (by decide), if_neg h]
    unfold kvI
    rw [List.map_append]
    congr 1
    · refine List.map_congr_left fun x hx => ?_
      show _ = ((Sum.inl x : Key), V.int (if x = r then v else lv x))
      rw [if_neg (fun (e : x = r) => h (e ▸ hx))]
    · show [((Sum.inl r : Key), V.int v)] = [((Sum.inl r : Key), V.int (if r = r then v else lv r))]
      rw [if_pos rfl]
theorem kvI_len (ks : List Int) (lv : Int → Int) : (kvI ks lv).length = ks.length := List.length_map ..
/-- the least numbers with a property, by their residues -/
structure MinBy (P : Int) (D : Int → Prop) (ks : List Int) (lv : Int → Int) : Prop where
  nd : ks.Nodup
  wit : ∀ r ∈ ks, D (lv r) ∧ lv r % P = r
  low : ∀ d, D d → d % P ∈ ks ∧ lv (d % P) ≤ d
theorem MinBy.nil (P : Int) {D : Int → Prop} (h : ∀ d, ¬ D d) (lv : Int → Int) : MinBy P D [] lv := ⟨List.nodup_nil, (fun r z => by cases z), fun d z => absurd z (h d)⟩
theorem MinBy.put {P : Int} {D : Int → Prop} {ks : List Int} {lv : Int → Int} (h : MinBy P D ks lv) {x v : Int} (hv : v = x ∨ (x % P ∈ ks ∧ v = lv (x % P))) (h1 : v ≤ x) (h2 : x % P ∈ ks → v ≤ lv (x % P)) :
    MinBy P (fun d => D d ∨ d = x) (if x % P ∈ ks then ks else ks ++ [x % P]) (fun y => if y = x % P then v else lv y) := by
  have hm : ∀ r, r ∈ (if x % P ∈ ks then ks else ks ++ [x % P]) ↔ r ∈ ks ∨ r = x % P := fun r => by
    split
    · rename_i z
      constructor
      · exact .inl
      · rintro (y | rfl)
        · exact y
        · exact z
    · rw [List.mem_append, List.mem_singleton]
  refine ⟨?_, fun r hr => ?_, fun d hd => ?_⟩
  · split
    · exact h.nd
    · rename_i z
      exact List.nodup_append.mpr ⟨h.nd, List.nodup_cons.mpr ⟨(fun y => by cases y), List.nodup_nil⟩, fun a ha b hb e => z (by rw [← List.mem_singleton.mp hb, ← e]; exact ha)⟩
  · by_cases e : r = x % P
    · rw [if_pos e]
      rcases hv with rfl | ⟨z, rfl⟩
      · exact ⟨.inr rfl, e.symm⟩
      · obtain ⟨a, b⟩ := h.wit _ z
        exact ⟨.inl a, by rw [b, e]⟩
    · rw [if_neg e]
      obtain ⟨a, b⟩ := h.wit r (((hm r).mp hr).resolve_right e)
      exact ⟨.inl a, b⟩
  · rw [hm]
    rcases hd with hd | rfl
    · obtain ⟨a, b⟩ := h.low d hd
      refine ⟨.inl a, ?_⟩
      by_cases e : d % P = x % P
      · rw [if_pos e]
        rw [e] at a b
        have := h2 a
        omega
      · rw [if_neg e]
        exact b
    · refine ⟨.inr rfl, ?_⟩
      rw [if_pos rfl]
      exact h1
theorem MinBy.congr {P : Int} {D E : Int → Prop} {ks : List Int} {lv : Int → Int} (h : MinBy P D ks lv) (e : ∀ d, D d ↔ E d) : MinBy P E ks lv := ⟨h.nd, fun r hr => ⟨(e _).mp (h.wit r hr).1, (h.wit r hr).2⟩, fun d hd => h.low d ((e d).mpr hd)⟩
/-! ### distances of repeating gaps -/
def RepDif (gs : List Int) (m : Nat) (d : Int) : Prop := ∃ i j : Nat, j < i ∧ gs.length - m ≤ i ∧ off gs (.rep m) i - off gs (.rep m) j = d
/-- those of the first turn -/
def RepDif0 (gs : List Int) (m : Nat) (d : Int) : Prop := ∃ j k : Nat, j < gs.length ∧ k < m ∧ off gs (.rep m) (max (gs.length - m) (j + 1) + k) - off gs (.rep m) j = d
section
variable {gs : List Int} {m : Nat} (okG : GapsOk gs) (okT : TlOk gs.length (.rep m))
include okG okT
theorem RepDif.up {d : Int} (h : RepDif gs m d) (z : Nat) : RepDif gs m (d + (z : Int) * per gs m) := by
  obtain ⟨i, j, h1, h2, h3⟩ := h
  have e := off_turns okT.1 okT.2 h2 z
  exact ⟨i + m * z, j, by omega, by omega, by omega⟩
theorem RepDif.low {d : Int} (h : RepDif gs m d) : ∃ d0 z : Nat, RepDif0 gs m (d - (z : Int) * per gs m) := by
  have hm1 : 1 ≤ m := okT.1
  have hm2 : m ≤ gs.length := okT.2
  obtain ⟨i, j, h1, h2, h3⟩ := h
  -- the later one in the first turn
  have back : ∀ (j i : Nat), j < i → gs.length - m ≤ i → ∃ i0 j0 : Nat, j0 < i0 ∧ gs.length - m ≤ i0 ∧ j0 < gs.length ∧ off gs (.rep m) i0 - off gs (.rep m) j0 = off gs (.rep m) i - off gs (.rep m) j := by
    intro j
    induction j using Nat.strongRecOn with
    | ind j ih =>
      intro i h1 h2
      by_cases hj : j < gs.length
      · exact ⟨i, j, h1, h2, hj, rfl⟩
      · obtain ⟨i0, j0, a1, a2, a3, a4⟩ := ih (j - m) (by omega) (i - m) (by omega) (by omega)
        have b1 := off_per hm1 hm2 (i := j - m) (by omega)
        have b2 := off_per hm1 hm2 (i := i - m) (by omega)
        rw [show j - m + m = j by omega] at b1
        rw [show i - m + m = i by omega] at b2
        exact ⟨i0, j0, a1, a2, a3, by omega⟩
  obtain ⟨i0, j0, a1, a2, a3, a4⟩ := back j i h1 h2
  have hdm := Nat.div_add_mod (i0 - max (gs.length - m) (j0 + 1)) m
  have hmod := Nat.mod_lt (i0 - max (gs.length - m) (j0 + 1)) (show 0 < m by omega)
  have e := off_turns hm1 hm2 (i := max (gs.length - m) (j0 + 1) + (i0 - max (gs.length - m) (j0 + 1)) % m) (by omega) ((i0 - max (gs.length - m) (j0 + 1)) / m)
  rw [show max (gs.length - m) (j0 + 1) + (i0 - max (gs.length - m) (j0 + 1)) % m + m * ((i0 - max (gs.length - m) (j0 + 1)) / m) = i0 by omega] at e
  exact ⟨0, (i0 - max (gs.length - m) (j0 + 1)) / m, j0, (i0 - max (gs.length - m) (j0 + 1)) % m, a3, hmod, by omega⟩
theorem RepDif0.rep {d : Int} (h : RepDif0 gs m d) : RepDif gs m d := by
  obtain ⟨j, k, h1, h2, h3⟩ := h
  exact ⟨_, j, by omega, by omega, h3⟩
theorem per_posR : 0 < per gs m := by
  have := (per_bd okG okT.1 okT.2).1
  have := okT.1
  omega
/-- by the least ones one knows them all -/
theorem MinBy.rep {ks : List Int} {lv : Int → Int} (h : MinBy (per gs m) (RepDif0 gs m) ks lv) (d : Int) : RepDif gs m d ↔ d % per gs m ∈ ks ∧ lv (d % per gs m) ≤ d := by
  have hp := per_posR okG okT
  constructor
  · intro hd
    obtain ⟨_, z, h0⟩ := hd.low okG okT
    obtain ⟨a, b⟩ := h.low _ h0
    have e : (d - (z : Int) * per gs m) % per gs m = d % per gs m := by
      rw [Int.sub_eq_add_neg, ← Int.neg_mul, Int.add_mul_emod_self_right]
    rw [e] at a b
    have : 0 ≤ (z : Int) * per gs m := Int.mul_nonneg (by omega) (by omega)
    exact ⟨a, by omega⟩
  · rintro ⟨a, b⟩
    obtain ⟨w, e⟩ := h.wit _ a
    have h1 : (d - lv (d % per gs m)) % per gs m = 0 := by
      rw [Int.sub_emod, e, Int.sub_self, Int.zero_emod]
    have h2 := Int.emod_add_mul_ediv (d - lv (d % per gs m)) (per gs m)
    have h3 : 0 ≤ (d - lv (d % per gs m)) / per gs m := Int.ediv_nonneg (by omega) (by omega)
    obtain ⟨z, hz⟩ := Int.eq_ofNat_of_zero_le h3
    have := (w.rep okG okT).up okG okT z
    rw [hz, h1] at h2
    rw [show lv (d % per gs m) + (z : Int) * per gs m = d by rw [Int.mul_comm]; omega] at this
    exact this
end
end RS
namespace RS
open PySem L2
/-! ### counted by residues -/
theorem cnt_one {P : Int} (hP : 0 < P) {a lim : Int} (h : a ≤ lim) : NumOf (fun d => d % P = a % P ∧ a ≤ d ∧ d ≤ lim) (((lim - a) / P).toNat + 1) := by
  have hq : 0 ≤ (lim - a) / P := Int.ediv_nonneg (by omega) (by omega)
  refine NumOf.seq (fun i => a + (i : Int) * P) (fun i j e => ?_) (lo := 0) fun d => ?_
  · have e : a + (i : Int) * P = a + (j : Int) * P := e
    have h1 : (i : Int) * P = (j : Int) * P := by omega
    have := Int.eq_of_mul_eq_mul_right (by omega) h1
    omega
  · constructor
    · rintro ⟨e, h1, h2⟩
      have h3 : (d - a) % P = 0 := by rw [Int.sub_emod, e, Int.sub_self, Int.zero_emod]
      have h4 := Int.emod_add_mul_ediv (d - a) P
      have h5 : 0 ≤ (d - a) / P := Int.ediv_nonneg (by omega) (by omega)
      obtain ⟨z, hz⟩ := Int.eq_ofNat_of_zero_le h5
      rw [hz, h3] at h4
      have h6 : (d - a) / P ≤ (lim - a) / P := Int.ediv_le_ediv hP (by omega)
      refine ⟨z, Nat.zero_le _, by omega, ?_⟩
      show d = a + (z : Int) * P
      rw [Int.mul_comm]
      omega
    · rintro ⟨i, _, h1, rfl⟩
      have h2 : (i : Int) * P ≤ (lim - a) / P * P := Int.mul_le_mul_of_nonneg_right (by omega) (by omega)
      have h3 := Int.ediv_mul_le (lim - a) (show P ≠ 0 by omega)
      have h4 : 0 ≤ (i : Int) * P := Int.mul_nonneg (by omega) (by omega)
      exact ⟨Int.add_mul_emod_self_right .., by omega, by omega⟩
theorem cnt_res {P : Int} (hP : 0 < P) (lv : Int → Int) (lim : Int) : ∀ ks : List Int, ks.Nodup → (∀ r ∈ ks, lv r % P = r) →
    ∃ n : Nat, NumOf (fun d => d % P ∈ ks ∧ lv (d % P) ≤ d ∧ d ≤ lim) n ∧ (n : Int) = ((ks.filter fun r => decide (lv r ≤ lim)).map fun r => (lim - lv r) / P + 1).sum
  | [], _, _ => ⟨0, NumOf.nil fun d h => (by cases h.1), rfl⟩
  | r :: ks, hn, hr => by
    obtain ⟨h1, h2⟩ := List.nodup_cons.mp hn
    obtain ⟨n, hN, e⟩ := cnt_res hP lv lim ks h2 fun x hx => hr x (List.mem_cons_of_mem _ hx)
    have e0 := hr r (List.mem_cons_self ..)
    by_cases hl : lv r ≤ lim
    · have h3 := cnt_one hP hl
      have hq : 0 ≤ (lim - lv r) / P := Int.ediv_nonneg (by omega) (by omega)
      refine ⟨((lim - lv r) / P).toNat + 1 + n, (NumOf.add h3 hN ?_).congr fun d => ?_, ?_⟩
      · rintro d ⟨a, _⟩ ⟨b, _⟩
        rw [a, e0] at b
        exact h1 b
      · constructor
        · rintro (⟨a, b, c⟩ | ⟨a, b, c⟩)
          · rw [e0] at a
            rw [a]
            exact ⟨List.mem_cons_self .., b, c⟩
          · exact ⟨List.mem_cons_of_mem _ a, b, c⟩
        · rintro ⟨a, b, c⟩
          rcases List.mem_cons.mp a with z | z
          · rw [z] at b
            exact .inl ⟨by rw [z, e0], b, c⟩
          · exact .inr ⟨z, b, c⟩
      · rw [List.filter_cons, if_pos (decide_eq_true hl), List.map_cons, List.sum_cons, ← e]
        omega
    · refine ⟨n, hN.congr fun d => ?_, ?_⟩
      · constructor
        · rintro ⟨a, b, c⟩
          exact ⟨List.mem_cons_of_mem _ a, b, c⟩
        · rintro ⟨a, b, c⟩
          rcases List.mem_cons.mp a with z | z
          · rw [z] at b
            omega
          · exact ⟨z, b, c⟩
      · rw [List.filter_cons, if_neg (by rw [decide_eq_false hl]; decide)]
        exact e
section
variable {gs : List Int} {m : Nat} (okG : GapsOk gs) (okT : TlOk gs.length (.rep m))
include okG okT
theorem isDif_rep (d : Int) : IsDif gs (.rep m) d ↔ RepDif gs m d ∨ DifB gs (.rep m) (gs.length - m) d := by
  constructor
  · rintro ⟨i, j, h1, h2, h3⟩
    rcases Nat.lt_or_ge i (gs.length - m) with z | z
    · exact .inr ⟨i, j, h1, z, h3⟩
    · exact .inl ⟨i, j, h1, z, h3⟩
  · rintro (⟨i, j, h1, h2, h3⟩ | ⟨i, j, h1, h2, h3⟩)
    · exact ⟨i, j, h1, vokR, h3⟩
    · exact ⟨i, j, h1, vokR, h3⟩
theorem rep_total {ks : List Int} {lv : Int → Int} (h : MinBy (per gs m) (RepDif0 gs m) ks lv) {lim : Int} {k : Nat} (hk : NumOf (fun d => DifB gs (.rep m) (gs.length - m) d ∧ d ≤ lim ∧ ¬ RepDif gs m d) k) :
    ∃ n : Nat, NumD gs (.rep m) lim (n + k) ∧ (n : Int) = ((ks.filter fun r => decide (lv r ≤ lim)).map fun r => (lim - lv r) / per gs m + 1).sum := by
  obtain ⟨n, hn, e⟩ := cnt_res (per_posR okG okT) lv lim ks h.nd fun r hr => (h.wit r hr).2
  refine ⟨n, (NumOf.add hn hk ?_).congr fun d => ?_, e⟩
  · rintro d ⟨a, b, c⟩ ⟨_, _, z⟩
    exact z ((h.rep okG okT d).mpr ⟨a, b⟩)
  · rw [isDif_rep okG okT, h.rep okG okT]
    constructor
    · rintro (⟨a, b, c⟩ | ⟨a, b, c⟩)
      · exact ⟨.inl ⟨a, b⟩, c⟩
      · exact ⟨.inr a, b⟩
    · rintro ⟨a | a, c⟩
      · exact .inl ⟨a.1, a.2, c⟩
      · by_cases z : d % per gs m ∈ ks ∧ lv (d % per gs m) ≤ d
        · exact .inl ⟨z.1, z.2, c⟩
        · exact .inr ⟨a, c, z⟩
/-- far away each period adds as many -/
theorem rep_turn {X : Int} (hX : off gs (.rep m) gs.length < X) {n0 n1 n2 : Nat} (h0 : NumD gs (.rep m) X n0) (h1 : NumD gs (.rep m) (X + per gs m) n1) (h2 : NumD gs (.rep m) (X + 2 * per gs m) n2) :
    ∃ c : Nat, n1 = n0 + c ∧ n2 = n1 + c ∧ 1 ≤ c ∧ c ≤ gs.length * gs.length := by
  have hp := per_posR okG okT
  have hm1 : 1 ≤ m := okT.1
  have hm2 : m ≤ gs.length := okT.2
  -- behind the first turn
  have up : ∀ d, IsDif gs (.rep m) d → X < d → IsDif gs (.rep m) (d + per gs m) := by
    rintro d ⟨i, j, a1, a2, a3⟩ hd
    have hj : 0 ≤ off gs (.rep m) j := Int.le_trans (by omega) (off_minR okG okT j)
    have hi : gs.length < i := (off_ltR okG okT).mp (by omega)
    have := off_per hm1 hm2 (i := i) (by omega)
    exact ⟨i + m, j, by omega, vokR, by omega⟩
  have down : ∀ d, IsDif gs (.rep m) (d + per gs m) → X < d → IsDif gs (.rep m) d := by
    rintro d ⟨i, j, a1, a2, a3⟩ hd
    have hj : 0 ≤ off gs (.rep m) j := Int.le_trans (by omega) (off_minR okG okT j)
    have hi : gs.length < i := (off_ltR okG okT).mp (by omega)
    have h3 := off_per hm1 hm2 (i := i - m) (by omega)
    rw [show i - m + m = i by omega] at h3
    have hx : 0 ≤ off gs (.rep m) gs.length := Int.le_trans (by omega) (off_minR okG okT gs.length)
    exact ⟨i - m, j, (off_ltR okG okT).mp (by omega), vokR, by omega⟩
  -- those of a turn
  obtain ⟨l0, a1, a2, a3⟩ := h0
  obtain ⟨l1, b1, b2, b3⟩ := h1
  have hc : NumOf (fun d => IsDif gs (.rep m) d ∧ X < d ∧ d ≤ X + per gs m) (l1.filter fun d => decide (X < d)).length :=
    ⟨l1.filter fun d => decide (X < d), b1.sublist List.filter_sublist, fun d => by
      rw [List.mem_filter, b2]
      constructor
      · rintro ⟨⟨x, y⟩, z⟩
        exact ⟨x, of_decide_eq_true z, y⟩
      · rintro ⟨x, y, z⟩
        exact ⟨⟨x, z⟩, decide_eq_true y⟩, rfl⟩
  have e1 : n1 = n0 + (l1.filter fun d => decide (X < d)).length := NumOf.one ⟨l1, b1, b2, b3⟩ ((NumOf.add ⟨l0, a1, a2, a3⟩ hc (fun d x y => by have := x.2; have := y.2.1; omega)).congr fun d => by
    constructor
    · rintro (⟨x, y⟩ | ⟨x, y, z⟩)
      · exact ⟨x, by omega⟩
      · exact ⟨x, z⟩
    · rintro ⟨x, y⟩
      rcases Int.lt_or_le X d with z | z
      · exact .inr ⟨x, z, y⟩
      · exact .inl ⟨x, z⟩)
  obtain ⟨lc, c1, c2, c3⟩ := hc
  have hc2 : NumOf (fun d => IsDif gs (.rep m) d ∧ X + per gs m < d ∧ d ≤ X + 2 * per gs m) lc.length := by
    refine ⟨lc.map fun d => d + per gs m, ?_, fun d => ?_, List.length_map ..⟩
    · refine List.pairwise_map.mpr (List.Pairwise.imp ?_ c1)
      intro x y hxy e
      omega
    · constructor
      · intro hd
        obtain ⟨x, hx, rfl⟩ := List.mem_map.mp hd
        obtain ⟨y1, y2, y3⟩ := (c2 x).mp hx
        exact ⟨up x y1 y2, by omega, by omega⟩
      · rintro ⟨x, y, z⟩
        refine List.mem_map.mpr ⟨d - per gs m, (c2 _).mpr ⟨down _ (by rw [show d - per gs m + per gs m = d by omega]; exact x) (by omega), by omega, by omega⟩, by omega⟩
  have e2 : n2 = n1 + lc.length := NumOf.one h2 ((NumOf.add ⟨l1, b1, b2, b3⟩ hc2 (fun d x y => by have := x.2; have := y.2.1; omega)).congr fun d => by
    constructor
    · rintro (⟨x, y⟩ | ⟨x, y, z⟩)
      · exact ⟨x, by omega⟩
      · exact ⟨x, z⟩
    · rintro ⟨x, y⟩
      rcases Int.lt_or_le (X + per gs m) d with z | z
      · exact .inr ⟨x, z, y⟩
      · exact .inl ⟨x, z⟩)
  refine ⟨lc.length, by omega, e2, ?_, ?_⟩
  · -- a whole number of periods
    have hx : 0 ≤ off gs (.rep m) gs.length := Int.le_trans (by omega) (off_minR okG okT gs.length)
    have h3 : 0 ≤ X / per gs m := Int.ediv_nonneg (by omega) (by omega)
    obtain ⟨z, hz⟩ := Int.eq_ofNat_of_zero_le h3
    have h4 := Int.emod_add_mul_ediv X (per gs m)
    have h5 := Int.emod_nonneg X (show per gs m ≠ 0 by omega)
    have h6 := Int.emod_lt_of_pos X hp
    rw [hz] at h4
    have e3 := off_turns hm1 hm2 (i := gs.length - m) (Nat.le_refl _) (z + 1)
    have hmem : ((z : Int) + 1) * per gs m ∈ lc := (c2 _).mpr ⟨⟨gs.length - m + m * (z + 1), gs.length - m, by
      have : 1 * 1 ≤ m * (z + 1) := Nat.mul_le_mul hm1 (by omega)
      omega, vokR, by rw [e3, show ((z + 1 : Nat) : Int) = (z : Int) + 1 from rfl]; omega⟩, by rw [Int.add_mul, Int.one_mul, Int.mul_comm]; omega, by rw [Int.add_mul, Int.one_mul, Int.mul_comm]; omega⟩
    exact List.length_pos_of_mem hmem
  · -- by the earlier attempt and the place in the turn of the later one
    have key : ∀ d ∈ lc, ∃ j k : Nat, j < gs.length ∧ k < m ∧ ∃ q : Nat, d + off gs (.rep m) j = off gs (.rep m) (gs.length - m + k) + (q : Int) * per gs m := fun d hd => by
      obtain ⟨⟨i, j, x1, x2, x3⟩, x4, x5⟩ := (c2 d).mp hd
      obtain ⟨i0, j0, y1, y2, y3, y4⟩ := pair_back okT j i x1 x2
      have y3 : j0 < gs.length := y3
      have hj : 0 ≤ off gs (.rep m) j0 := Int.le_trans (by omega) (off_minR okG okT j0)
      have hi : gs.length < i0 := (off_ltR okG okT).mp (by omega)
      have hdm := Nat.div_add_mod (i0 - (gs.length - m)) m
      have e3 := off_turns hm1 hm2 (i := gs.length - m + (i0 - (gs.length - m)) % m) (by omega) ((i0 - (gs.length - m)) / m)
      rw [show gs.length - m + (i0 - (gs.length - m)) % m + m * ((i0 - (gs.length - m)) / m) = i0 by omega] at e3
      exact ⟨j0, (i0 - (gs.length - m)) % m, y3, Nat.mod_lt _ (by omega), (i0 - (gs.length - m)) / m, by omega⟩
    classical
    let f : Int → Int := fun d => if h : ∃ j k : Nat, j < gs.length ∧ k < m ∧ ∃ q : Nat, d + off gs (.rep m) j = off gs (.rep m) (gs.length - m + k) + (q : Int) * per gs m then ((h.choose * m + h.choose_spec.choose : Nat) : Int) else 0
    have fs : ∀ d ∈ lc, ∃ j k : Nat, j < gs.length ∧ k < m ∧ (∃ q : Nat, d + off gs (.rep m) j = off gs (.rep m) (gs.length - m + k) + (q : Int) * per gs m) ∧ f d = ((j * m + k : Nat) : Int) := fun d hd => by
      have h := key d hd
      exact ⟨h.choose, h.choose_spec.choose, h.choose_spec.choose_spec.1, h.choose_spec.choose_spec.2.1, h.choose_spec.choose_spec.2.2, dif_pos h⟩
    have inj : (lc.map f).Nodup := by
      refine List.pairwise_map.mpr (List.Pairwise.imp_of_mem ?_ c1)
      intro x y hx hy hne e
      obtain ⟨j, k, z1, z2, ⟨q, z3⟩, z4⟩ := fs x hx
      obtain ⟨j', k', w1, w2, ⟨q', w3⟩, w4⟩ := fs y hy
      have e4 : j * m + k = j' * m + k' := by omega
      have ej : j = j' := by
        have h7 : (j * m + k) / m = j := by rw [Nat.mul_comm, Nat.mul_add_div (by omega), Nat.div_eq_of_lt z2]; omega
        have h8 : (j' * m + k') / m = j' := by rw [Nat.mul_comm, Nat.mul_add_div (by omega), Nat.div_eq_of_lt w2]; omega
        rw [← h7, e4, h8]
      subst ej
      have ek : k = k' := by omega
      subst ek
      obtain ⟨_, x4, x5⟩ := (c2 x).mp hx
      obtain ⟨_, y4, y5⟩ := (c2 y).mp hy
      have e5 : x - y = ((q : Int) - (q' : Int)) * per gs m := by rw [Int.sub_mul]; omega
      have hq : q = q' := by
        rcases Nat.lt_trichotomy q q' with v | v | v
        · have := Int.mul_le_mul_of_nonneg_right (show (q : Int) + 1 ≤ (q' : Int) by omega) (show 0 ≤ per gs m by omega)
          rw [Int.add_mul, Int.one_mul] at this
          rw [Int.sub_mul] at e5
          omega
        · exact v
        · have := Int.mul_le_mul_of_nonneg_right (show (q' : Int) + 1 ≤ (q : Int) by omega) (show 0 ≤ per gs m by omega)
          rw [Int.add_mul, Int.one_mul] at this
          rw [Int.sub_mul] at e5
          omega
      subst hq
      exact hne (by omega)
    have hle := nodup_le inj (m := List.map (fun n : Nat => (n : Int)) (List.range (gs.length * m))) fun y hy => by
      obtain ⟨x, hx, rfl⟩ := List.mem_map.mp hy
      obtain ⟨j, k, z1, z2, _, z4⟩ := fs x hx
      refine List.mem_map.mpr ⟨j * m + k, List.mem_range.mpr ?_, z4.symm⟩
      have : (j + 1) * m ≤ gs.length * m := Nat.mul_le_mul_right _ (by omega)
      rw [Nat.add_mul, Nat.one_mul] at this
      omega
    rw [List.length_map, List.length_map, List.length_range] at hle
    exact Nat.le_trans hle (Nat.mul_le_mul_left _ hm2)
end
end RS
namespace L2
open PySem PySem.Spec PyProof.Rows
/-- what is made here and walked over is locked for good -/
def tFrz (t : TE) : TE := fun σ H Q => t σ H fun x H1 => ∃ d u, x = .ref d ∧ H1 d = some u ∧ Mut (some u) ∧ ∀ od, Q x (upd H1 d (.frz od u))
theorem pe_frz {X : Cx} {e : Expr} {t : TE} (h : PE X e t) : PE X e (tFrz t) := by
  refine ⟨fun pins s σ H Q I hw => ?_⟩
  refine thn (h.run pins s σ H _ I hw) fun v s1 ⟨x, H1, I1, r, d, u, ex, hd, mu, q⟩ => ?_
  obtain ⟨od, I2⟩ := I1.lock hd mu
  exact ⟨x, _, I2, r, q od⟩
end L2
namespace RS
open PySem L2
theorem offL_takeN (gs : List Int) (tl : Tl) {n k : Nat} (h : k ≤ n) : (offL gs tl n).take k = offL gs tl k := by
  unfold offL
  rw [← List.map_take, List.take_range, Nat.min_eq_left h]
section
variable {P : Program} {w : World} {K : PySem.W.Frag} {mg : Str → Option Value} {base : Heap}
/-! ### check_bound, single_offsets -/
def spCb : Sp := fun vs H Q _ => ∃ (s : Str) (v lo : Int), vs = [.str s, .int v, .int lo, .non] ∧ lo ≤ v ∧ Q .non H
def cbN : List Str := ["part", "value", "low", "high"]
theorem scCb : FnScope cbN cbN (defScope s_check_bound) := ⟨rfl, rfl, rfl, by decide +kernel, rfl, by decide +kernel, by decide +kernel⟩
theorem ok_cb {f C fI : Addr} {fd fdI : FuncData} (F : Fun K "check_bound" "check_bound" s_check_bound f fd) (T : Txt K mg C) (GI : FnOk P w K mg base CX0 1 fI fdI ["value"] spIsInt) (bI : Binds K fdI ["value"] []) (mI : mg "is_integer" = some (.ref fI)) (kI : PySem.W.keepIn K (.ref fI) = true) : FnOk P w K mg base CX0 2 f fd ["part", "value", "low", "high"] spCb := by
  refine F.ok scCb (fun vs H Q E h => ?_) (fun cdv A outer s H vs Q E hr h => ?_)
  · obtain ⟨z, v, lo, rfl, _⟩ := h
    rfl
  · obtain ⟨z, v, lo, rfl, hlo, k⟩ := h
    refine ⟨_, (pss_cons (ps_if (pt_not (pt_val (pe_call GI hr rfl mI kI bI .nil pass0 (pa_cons (pv 1) pa_nil)))) (pss_one ps_never) pss_nil) (pss_one (ps_if (PW.pt (pw_or (PW.pt (pw_and (pt_cmpR op_notN (pv 2) pe_non (nomark _)) (pw_and1 (pt_cmpR op_lt (pv 1) (pv 2) (nomark _))))) (pw_or1 (PW.pt (pw_and (pt_cmpR op_notN (pv 3) pe_non (nomark _)) (pw_and1 (pt_cmpR op_gt (pv 1) (pv 3) (nomark _)))))))) (pss_one ps_never) pss_nil))), ?_⟩
    refine ⟨_, rfl, v, rfl, true, rfl, iteF ?_⟩
    refine ⟨_, rfl, rfl, _, rfl, iteTb rfl ?_⟩
    refine ⟨_, rfl, _, rfl, _, _, rfl, rfl, _, rfl, iteFb (decide_eq_false (by omega)) ?_⟩
    exact ⟨_, rfl, rfl, _, rfl, iteFb rfl (iteF k)⟩
def spSo (C : Addr) : Sp := fun vs H Q _ => ∃ (p g t o : Addr) (gs : List Int) (m : Nat), vs = [.ref p] ∧ RuleAt C H p g t o gs (.rep m) ∧ ∀ q H', H q = none → Same H H' → H' q = some (.lst ((offL gs (.rep m) (gs.length - m)).map V.int)) → Q (.ref q) H'
theorem scSo : FnScope ["rule"] ["rule"] (defScope s_single_offsets) := ⟨rfl, rfl, rfl, by decide +kernel, rfl, by decide +kernel, by decide +kernel⟩
theorem ok_so {f C fL fF : Addr} {fd fdL fdF : FuncData} (F : Fun K "single_offsets" "single_offsets" s_single_offsets f fd) (T : Txt K mg C)
    (GL : FnOk P w K mg base CX0 2 fL fdL ["rule"] (spLO C)) (bL : Binds K fdL ["rule"] []) (mL : mg "listed_offsets" = some (.ref fL)) (kL : PySem.W.keepIn K (.ref fL) = true)
    (GF : FnOk P w K mg base CX0 1 fF fdF ["self"] (spFRA C)) (bF : Binds K fdF ["self"] []) (mF : Meth K C "first_repeating" fF) : FnOk P w K mg base CX0 3 f fd ["rule"] (spSo C) := by
  refine F.ok scSo (fun vs H Q E h => ?_) (fun cdv A outer s H vs Q E hr h => ?_)
  · obtain ⟨p, g, t, o, gs, m, rfl, _⟩ := h
    rfl
  · obtain ⟨p, g, t, o, gs, m, rfl, R, k⟩ := h
    have hr1 := hr.mono (show 1 ≤ 2 by decide)
    refine ⟨_, (pss_one (ps_ret (pe_slice sl_list (pe_call GL hr rfl mL kL bL .nil pass0 (pa_cons (pv 0) pa_nil)) po_none (po_some (pe_meth0 (pv 0) T.cl mF GF hr1 bF .nil pass0))))), ?_⟩
    refine ⟨_, rfl, p, g, t, o, gs, .rep m, rfl, R, fun q H1 hq S1 hq1 => ?_⟩
    have R1 := R.mono S1
    obtain ⟨dx, hob⟩ := R1.ob
    have hm2 : m ≤ gs.length := R.okT.2
    rw [offs_offL2 gs (.rep m)] at hq1
    refine ⟨_, rfl, p, dx, _, rfl, hob, flds_no _ _ _ (by decide +kernel) (by decide +kernel) (by decide +kernel), p, g, t, o, gs, .rep m, rfl, R1, ?_⟩
    refine ⟨_, rfl, q, _, rfl, SqL.of hq1, fun l hl => ?_⟩
    refine k l _ (S1.free hl) (S1.trans (same_new hl)) ?_
    rw [upd_same, cut_to, ← List.map_take, offL_takeN _ _ (by omega)]
end
end RS
namespace RS
open PySem L2
section
variable {P : Program} {w : World} {K : PySem.W.Frag} {mg : Str → Option Value} {base : Heap}
/-! ### _least_by_residue -/
def spLb (C : Addr) : Sp := fun vs H Q _ => ∃ (p g t o : Addr) (gs : List Int) (m : Nat), vs = [.ref p] ∧ RuleAt C H p g t o gs (.rep m) ∧ ∀ d ks lv H', H d = none → Same H H' → H' d = some (.dK (kvI ks lv)) → ks.length ≤ 400 → MinBy (per gs m) (RepDif0 gs m) ks lv → Q (.ref d) H'
def lbN : List Str := ["rule", "first", "offsets", "many", "least", "early", "start", "late", "difference", "residue"]
theorem scLb : FnScope lbN ["rule"] (defScope s_least_by_residue) := ⟨rfl, rfl, rfl, by decide +kernel, rfl, by decide +kernel, by decide +kernel⟩
theorem ok_lb {f C fL fF fO fP : Addr} {fd fdL fdF fdO fdP : FuncData} (F : Fun K "_least_by_residue" "_least_by_residue" s_least_by_residue f fd) (T : Txt K mg C)
    (GL : FnOk P w K mg base CX0 2 fL fdL ["rule"] (spLO C)) (bL : Binds K fdL ["rule"] []) (mL : mg "listed_offsets" = some (.ref fL)) (kL : PySem.W.keepIn K (.ref fL) = true)
    (GF : FnOk P w K mg base CX0 1 fF fdF ["self"] (spFRA C)) (bF : Binds K fdF ["self"] []) (mF : Meth K C "first_repeating" fF)
    (GO : FnOk P w K mg base CX0 4 fO fdO ["self", "attempt"] (spOff C)) (bO : Binds K fdO ["self", "attempt"] []) (mO : Meth K C "offset" fO)
    (GP : FnOk P w K mg base CX0 2 fP fdP ["self"] (spPer C)) (bP : Binds K fdP ["self"] []) (mP : Meth K C "period" fP) : FnOk P w K mg base CX0 5 f fd ["rule"] (spLb C) := by
  refine F.ok scLb (fun vs H Q E h => ?_) (fun cdv A outer s H vs Q E hr h => ?_)
  · obtain ⟨p, g, t, o, gs, m, rfl, _⟩ := h
    rfl
  · obtain ⟨p, g, t, o, gs, m, rfl, R, k⟩ := h
    have hr1 := hr.mono (show 1 ≤ 4 by decide)
    have hr2 := hr.mono (show 2 ≤ 4 by decide)
    have hu := hu_of hr
    refine ⟨_, (pss_cons (ps_set (i := 1) scLb.nd rfl (Or.inl rfl) (pe_meth0 (pv 0) T.cl mF GF hr1 bF .nil pass0)) (pss_cons (ps_set (i := 2) scLb.nd rfl (Or.inl rfl) (pe_call GL hr2 rfl mL kL bL .nil pass0 (pa_cons (pv 0) pa_nil))) (pss_cons (ps_set (i := 3) scLb.nd rfl (Or.inl rfl) (pe_op op_sub (pe_op op_sub (pe_callB call_len_seq (by rfl) T.len (by decide +kernel) (pa_cons (pv 2) pa_nil)) pe_int) (pv 1))) (pss_cons (ps_set (i := 4) scLb.nd rfl (Or.inl rfl) pe_dnewK) (pss_cons (ps_for PassesOwn.never rfl (pi_range1 rfl T.range (pa_cons (pe_op op_sub (pe_callB call_len_seq (by rfl) T.len (by decide +kernel) (pa_cons (pv 2) pa_nil)) pe_int) pa_nil)) (pg_name (i := 5) scLb.nd rfl (Or.inl rfl)) (pss_cons (ps_set (i := 6) scLb.nd rfl (Or.inl rfl) (pe_callB (call_max2 rfl) (by rfl) T.max (by decide +kernel) (pa_cons (pv 1) (pa_cons (pe_op op_add (pv 5) pe_int) pa_nil)))) (pss_one (ps_for PassesOwn.never rfl (pi_range2 rfl T.range (pa_cons (pv 6) (pa_cons (pe_op op_add (pv 6) (pv 3)) pa_nil))) (pg_name (i := 7) scLb.nd rfl (Or.inl rfl)) (pss_cons (ps_set (i := 8) scLb.nd rfl (Or.inl rfl) (pe_op op_sub (pe_meth (pv 0) T.cl mO GO hr bO .nil pass0 (pa_cons (pv 7) pa_nil)) (pe_ix ix_list (pv 2) (pv 5) (fun _ _ => rfl)))) (pss_cons (ps_set (i := 9) scLb.nd rfl (Or.inl rfl) (pe_op op_mod (pv 8) (pe_meth0 (pv 0) T.cl mP GP hr2 bP .nil pass0))) (pss_one (ps_dput hu (pv 4) (pv 9) (pe_callB (call_min2 rfl) (by rfl) T.min (by decide +kernel) (pa_cons (pv 8) (pa_cons (pe_dget2 hu (pv 4) (pv 9) (pv 8) ⟨by rfl, by rfl, by rfl, by rfl⟩) pa_nil))) rfl)))))))) (pss_one (ps_ret (pv 4)))))))), ?_⟩
    have okG := R.okG
    have okT := R.okT
    have hm1 : 1 ≤ m := okT.1
    have hm2 : m ≤ gs.length := okT.2
    have hg20 := okG.1
    have nF : (flds g t o).lookup ("first_repeating" : Str) = none := flds_no _ _ _ (by decide +kernel) (by decide +kernel) (by decide +kernel)
    have nO : (flds g t o).lookup ("offset" : Str) = none := flds_no _ _ _ (by decide +kernel) (by decide +kernel) (by decide +kernel)
    have nP : (flds g t o).lookup ("period" : Str) = none := flds_no _ _ _ (by decide +kernel) (by decide +kernel) (by decide +kernel)
    obtain ⟨dx, hob⟩ := R.ob
    refine ⟨_, rfl, p, dx, _, rfl, hob, nF, p, g, t, o, gs, .rep m, rfl, R, ?_⟩
    refine ⟨_, rfl, p, g, t, o, gs, .rep m, rfl, R, fun q H1 hq S1 hq1 => ?_⟩
    rw [offs_offL2 gs (.rep m)] at hq1
    have R1 := R.mono S1
    have em : ((((offL gs (.rep m) (gs.length + 1)).map V.int).length : Nat) : Int) - 1 - ((gs.length - m : Nat) : Int) = (m : Int) := by rw [List.length_map, offL_len]; omega
    refine ⟨_, rfl, q, _, rfl, .inl (SqL.of hq1), _, _, rfl, rfl, _, rfl, _, _, rfl, rfl, ?_⟩
    dsimp only [gName]
    rw [em]
    clear em
    intro d hd
    have hd0 : (upd H1 d (.dK [])) d = some (.dK []) := upd_same
    have S0 : Same H1 (upd H1 d (.dK [])) := same_new hd
    have hn : (((((offL gs (.rep m) (gs.length + 1)).map V.int).length : Nat) : Int) - 1).toNat = gs.length := by rw [List.length_map, offL_len]; omega
    refine ⟨_, rfl, q, _, rfl, .inl (SqL.of (S0 _ _ hq1)), _, _, rfl, rfl, ?_⟩
    refine ⟨_, rfl, by omega, by omega, for_range (lo := 0) (n := (((((offL gs (.rep m) (gs.length + 1)).map V.int).length : Nat) : Int) - 1).toNat) (fun i σ H' => ∃ (v5 v6 v7 v8 v9 : Option V) (ks : List Int) (lv : Int → Int), σ = [some (.ref p), some (.int ((gs.length - m : Nat) : Int)), some (.ref q), some (.int (m : Int)), some (.ref d), v5, v6, v7, v8, v9] ∧ Same H1 H' ∧ H' d = some (.dK (kvI ks lv)) ∧ ks.length ≤ i * m ∧
      MinBy (per gs m) (fun x => ∃ j k : Nat, j < i ∧ k < m ∧ off gs (.rep m) (max (gs.length - m) (j + 1) + k) - off gs (.rep m) j = x) ks lv) ⟨none, none, none, none, none, [], fun _ => 0, rfl, S0, hd0, Nat.zero_le _, MinBy.nil _ (fun x ⟨j, k, z, _⟩ => absurd z (Nat.not_lt_zero _)) _⟩ ?_ ?_⟩
    · rintro i σ H2 hi ⟨v5, v6, v7, v8, v9, ks, lv, rfl, S2, hd2, hkl, hM⟩
      rw [hn] at hi
      dsimp only [gName]
      refine ⟨_, rfl, _, rfl, _, _, rfl, rfl, _, _, rfl, ?_⟩
      obtain ⟨st, est⟩ : ∃ st : Nat, st = max (gs.length - m) (i + 1) := ⟨_, rfl⟩
      have e6 : (if (0 : Int) + (i : Int) + 1 > ((gs.length - m : Nat) : Int) then (0 : Int) + (i : Int) + 1 else ((gs.length - m : Nat) : Int)) = (st : Int) := by
        split <;> omega
      rw [e6]
      clear e6
      have hn2 : ((st : Int) + (m : Int) - (st : Int)).toNat = m := by omega
      refine ⟨_, rfl, _, rfl, _, rfl, _, _, rfl, rfl, _, _, rfl, ⟨by omega, by omega, by omega, by omega⟩, for_range (lo := (st : Int)) (n := ((st : Int) + (m : Int) - (st : Int)).toNat) (fun k2 σ H' => ∃ (v7 v8 v9 : Option V) (ks : List Int) (lv : Int → Int), σ = [some (.ref p), some (.int ((gs.length - m : Nat) : Int)), some (.ref q), some (.int (m : Int)), some (.ref d), some (.int (0 + (i : Int))), some (.int (st : Int)), v7, v8, v9] ∧ Same H1 H' ∧ H' d = some (.dK (kvI ks lv)) ∧ ks.length ≤ i * m + k2 ∧
        MinBy (per gs m) (fun x => (∃ j k : Nat, j < i ∧ k < m ∧ off gs (.rep m) (max (gs.length - m) (j + 1) + k) - off gs (.rep m) j = x) ∨ ∃ k < k2, off gs (.rep m) (st + k) - off gs (.rep m) i = x) ks lv) ⟨v7, v8, v9, ks, lv, rfl, S2, hd2, hkl, hM.congr fun x => ⟨.inl, fun z => z.elim id (fun ⟨k, z, _⟩ => absurd z (Nat.not_lt_zero _))⟩⟩ ?_ ?_⟩
      · rintro k2 σ H3 hk2 ⟨v7, v8, v9, ks, lv, rfl, S3, hd3, hkl, hM⟩
        rw [hn2] at hk2
        dsimp only [gName]
        have R3 := R1.mono S3
        obtain ⟨dx3, hob3⟩ := R3.ob
        refine ⟨_, rfl, p, dx3, _, rfl, hob3, nO, _, rfl, p, g, t, o, gs, .rep m, st + k2, (by rw [Int.natCast_add]; rfl), R3, trivial, fun H4 S4 => ?_⟩
        have S04 := S3.trans S4
        have hd4 := S4 _ _ hd3
        have R4 := R1.mono S04
        obtain ⟨dx4, hob4⟩ := R4.ob
        have hq4 := S04 _ _ hq1
        have hxi : atI ((offL gs (.rep m) (gs.length + 1)).map V.int) (0 + (i : Int)) = some (.int (off gs (.rep m) i)) := by rw [Int.zero_add]; exact atI_nat (by rw [List.getElem?_map, offL_get gs _ (by omega)]; rfl)
        refine ⟨_, rfl, _, rfl, q, _, _, _, rfl, rfl, SqL.of hq4, hxi, _, _, rfl, rfl, ?_⟩
        have hP := per_posR okG okT
        refine ⟨_, rfl, _, rfl, p, dx4, _, rfl, hob4, nP, p, g, t, o, gs, .rep m, rfl, R4, _, _, rfl, rfl, hP, ?_⟩
        obtain ⟨x, ex⟩ : ∃ x, off gs (.rep m) (st + k2) - off gs (.rep m) i = x := ⟨_, rfl⟩
        dsimp only [gName]
        rw [ex]
        refine ⟨_, rfl, _, rfl, d, rfl, .inl ⟨_, .inl hd4⟩, _, rfl, _, rfl, _, DGet.k (k := Sum.inl (x % per gs m)) hd4, ?_⟩
        rw [kvI_val]
        have hfin : ∀ v : Int, (v = x ∨ (x % per gs m ∈ ks ∧ v = lv (x % per gs m))) → v ≤ x → (x % per gs m ∈ ks → v ≤ lv (x % per gs m)) → MinBy (per gs m) (fun y => (∃ j k : Nat, j < i ∧ k < m ∧ off gs (.rep m) (max (gs.length - m) (j + 1) + k) - off gs (.rep m) j = y) ∨ ∃ k < k2 + 1, off gs (.rep m) (st + k) - off gs (.rep m) i = y) (if x % per gs m ∈ ks then ks else ks ++ [x % per gs m]) (fun y => if y = x % per gs m then v else lv y) := fun v a b c => (hM.put a b c).congr fun y => by
          constructor
          · rintro ((z | ⟨k, z1, z2⟩) | rfl)
            · exact .inl z
            · exact .inr ⟨k, by omega, z2⟩
            · exact .inr ⟨k2, by omega, ex⟩
          · rintro (z | ⟨k, z1, z2⟩)
            · exact .inl (.inl z)
            · by_cases e : k = k2
              · subst e
                exact .inr (by omega)
              · exact .inl (.inr ⟨k, by omega, z2⟩)
        have hlen : (if x % per gs m ∈ ks then ks else ks ++ [x % per gs m]).length ≤ i * m + (k2 + 1) := by
          split
          · omega
          · rw [List.length_append, List.length_singleton]
            omega
        have h400 : i * m ≤ 20 * 20 := Nat.mul_le_mul (by omega) (by omega)
        have hput : ∀ v : Int, putK (kvI ks lv) (Sum.inl (x % per gs m)) (.int v) = _ := fun v => kvI_put ks lv (x % per gs m) v
        by_cases h : x % per gs m ∈ ks
        · rw [if_pos h]
          refine ⟨x, lv (x % per gs m), rfl, ?_⟩
          refine ⟨_, rfl, _, rfl, d, _, rfl, DPut.k (k := Sum.inl (x % per gs m)) hd4 (small_line (by rw [kvI_len]; omega)), ?_⟩
          rw [hput]
          refine ⟨_, _, _, _, _, rfl, fun b u e => by rw [upd_ne (ne_of_none e hd)]; exact S04 _ _ e, upd_same, hlen, hfin _ ?_ ?_ ?_⟩
          · split
            · exact .inr ⟨h, rfl⟩
            · exact .inl rfl
          · split <;> omega
          · intro _
            split <;> omega
        · rw [if_neg h]
          refine ⟨x, x, rfl, ?_⟩
          rw [if_neg (by omega)]
          refine ⟨_, rfl, _, rfl, d, _, rfl, DPut.k (k := Sum.inl (x % per gs m)) hd4 (small_line (by rw [kvI_len]; omega)), ?_⟩
          rw [hput]
          exact ⟨_, _, _, _, _, rfl, fun b u e => by rw [upd_ne (ne_of_none e hd)]; exact S04 _ _ e, upd_same, hlen, hfin x (.inl rfl) (Int.le_refl _) (fun z => absurd z h)⟩
      · rintro σ H3 ⟨v7, v8, v9, ks, lv, rfl, S3, hd3, hkl, hM⟩
        rw [hn2] at hkl hM
        refine ⟨_, _, _, _, _, ks, lv, rfl, S3, hd3, by rw [Nat.add_mul]; omega, hM.congr fun x => ?_⟩
        constructor
        · rintro (⟨j, k, z1, z2, z3⟩ | ⟨k, z1, z2⟩)
          · exact ⟨j, k, by omega, z2, z3⟩
          · exact ⟨i, k, by omega, z1, by rw [← est]; exact z2⟩
        · rintro ⟨j, k, z1, z2, z3⟩
          by_cases e : j = i
          · subst e
            exact .inr ⟨k, z2, by rw [est]; exact z3⟩
          · exact .inl ⟨j, k, by omega, z2, z3⟩
    · rintro σ H2 ⟨v5, v6, v7, v8, v9, ks, lv, rfl, S2, hd2, hkl, hM⟩
      rw [hn] at hkl hM
      have h400 : gs.length * m ≤ 20 * 20 := Nat.mul_le_mul hg20 (by omega)
      exact ⟨_, rfl, k d ks lv H2 (S1.free hd) (S1.trans S2) hd2 (by omega) hM⟩
end
end RS
namespace RS
open PySem L2
/-- the keys are the differences -/
theorem GrpAt.keys {H H' : Hp} {d : Addr} {ks : List Int} {as : List Addr} {ad : Int → List Addr} {PS : List Pr} {gs : List Int} {tl : Tl} {n : Nat} (G : GrpAt H H' d ks as ad (offL gs tl n) PS n n 0) (r : Int) : r ∈ ks ↔ DifB gs tl n r := by
  have od : ∀ {k : Nat}, k < n → (offL gs tl n).getD k 0 = off gs tl k := fun hk => offL_getD _ _ hk
  constructor
  · intro h
    have h1 := G.kne r h
    cases e : grp (offL gs tl n) PS r with
    | nil => exact absurd e h1
    | cons p q =>
      have hp : p ∈ grp (offL gs tl n) PS r := by rw [e]; exact List.mem_cons_self ..
      obtain ⟨h2, h3⟩ := List.mem_filter.mp hp
      obtain ⟨⟨i, j, rfl, h4, h5⟩, _⟩ := (G.up.mem p).mp h2
      have h3 := of_decide_eq_true h3
      unfold dif at h3
      simp only [Int.toNat_natCast] at h3
      rw [od h5, od (show i < n by omega)] at h3
      exact ⟨j, i, h4, h5, h3⟩
  · rintro ⟨i, j, h1, h2, h3⟩
    by_cases h : r ∈ ks
    · exact h
    · exfalso
      have h4 := (G.tp r).1
      have h5 : ad r = [] := List.map_eq_nil_iff.mp (G.D.out r h)
      rw [h5] at h4
      have h6 : ((j : Int), (i : Int)) ∈ grp (offL gs tl n) PS r := List.mem_filter.mpr ⟨(G.up.mem _).mpr ⟨⟨j, i, rfl, h1, h2⟩, .inl (show (j : Int) < (n : Int) by omega)⟩, decide_eq_true (by unfold dif; simp only [Int.toNat_natCast]; rw [od h2, od (show j < n by omega)]; exact h3)⟩
      rw [List.length_eq_zero_iff.mp h4.symm] at h6
      cases h6
section
variable {P : Program} {w : World} {K : PySem.W.Frag} {mg : Str → Option Value} {base : Heap}
/-! ### _count_repeating -/
def spCr (C : Addr) : Sp := fun vs H Q _ => ∃ (p g t o : Addr) (gs : List Int) (m : Nat) (lim : Int), vs = [.ref p, .int lim] ∧ RuleAt C H p g t o gs (.rep m) ∧ 0 ≤ lim ∧ lim < 2 ^ 150 ∧ ∀ (n : Nat) H', NumD gs (.rep m) lim n → Same H H' → Q (.int (n : Int)) H'
def crN : List Str := ["rule", "limit", "period", "least", "count", "difference"]
theorem scCr : FnScope crN ["rule", "limit"] (defScope s_count_repeating) := ⟨rfl, rfl, rfl, by decide +kernel, rfl, by decide +kernel, by decide +kernel⟩
theorem ok_cr {f C fP fL fD fS : Addr} {fd fdP fdL fdD fdS : FuncData} (F : Fun K "_count_repeating" "_count_repeating" s_count_repeating f fd) (T : Txt K mg C)
    (GP : FnOk P w K mg base CX0 2 fP fdP ["self"] (spPer C)) (bP : Binds K fdP ["self"] []) (mP : Meth K C "period" fP)
    (GL : FnOk P w K mg base CX0 5 fL fdL ["rule"] (spLb C)) (bL : Binds K fdL ["rule"] []) (mL : mg "_least_by_residue" = some (.ref fL)) (kL : PySem.W.keepIn K (.ref fL) = true)
    (GD : FnOk P w K mg base CX0 1 fD fdD ["offsets"] spPd) (bD : Binds K fdD ["offsets"] []) (mD : mg "_pairs_by_difference" = some (.ref fD)) (kD : PySem.W.keepIn K (.ref fD) = true)
    (GS : FnOk P w K mg base CX0 3 fS fdS ["rule"] (spSo C)) (bS : Binds K fdS ["rule"] []) (mS : mg "single_offsets" = some (.ref fS)) (kS : PySem.W.keepIn K (.ref fS) = true) : FnOk P w K mg base CX0 6 f fd ["rule", "limit"] (spCr C) := by
  refine F.ok scCr (fun vs H Q E h => ?_) (fun cdv A outer s H vs Q E hr h => ?_)
  · obtain ⟨p, g, t, o, gs, m, lim, rfl, _⟩ := h
    rfl
  · obtain ⟨p, g, t, o, gs, m, lim, rfl, R, hl0, hl1, k⟩ := h
    have hr1 := hr.mono (show 1 ≤ 5 by decide)
    have hr2 := hr.mono (show 2 ≤ 5 by decide)
    have hr3 := hr.mono (show 3 ≤ 5 by decide)
    have hu := hu_of hr
    refine ⟨_, (pss_cons (ps_set (i := 2) scCr.nd rfl (Or.inr rfl) (pe_meth0 (pv 0) T.cl mP GP hr2 bP .nil pass0)) (pss_cons (ps_set (i := 3) scCr.nd rfl (Or.inl rfl) (pe_call GL hr rfl mL kL bL .nil pass0 (pa_cons (pv 0) pa_nil))) (pss_cons (ps_set (i := 4) scCr.nd rfl (Or.inl rfl) (pe_callB (cr_sum rfl) (by rfl) T.sum (by decide +kernel) (pa_cons (pe_lock (pe_lc (own := [("difference", 5)]) (g := gName 5) rfl scCr.nd (pi_values (pv 3)) (blkOk_by (own := [("difference", 5)]) (N := crN) (sc := (defScope s_count_repeating)) (by decide +kernel)) (fun _ _ _ _ _ => (pg_name (i := 5) scCr.nd rfl (Or.inl rfl))) (fun _ _ _ _ _ => pts_one (pt_cmpR op_le (pv 5) (pv 1) (nomark _))) (fun _ _ _ _ _ => (pe_op op_add (pe_op op_fdivW (pe_op op_sub (pv 1) (pv 5)) (pv 2)) pe_int)))) pa_nil))) (pss_cons (ps_for PassesOwn.never rfl (pi_keys (pe_frz (pe_call GD hr1 rfl mD kD bD .nil pass0 (pa_cons (pe_call GS hr3 rfl mS kS bS .nil pass0 (pa_cons (pv 0) pa_nil)) pa_nil)))) (pg_name (i := 5) scCr.nd rfl (Or.inl rfl)) (pss_one (ps_if (PW.pt (pw_and (pt_cmpR op_le (pv 5) (pv 1) (nomark _)) (pw_and1 (pt_cmpR op_lt (pv 5) (pe_dget2 hu (pv 3) (pe_op op_mod (pv 5) (pv 2)) (pe_op op_add (pv 5) pe_int) ⟨by rfl, by rfl, by rfl, by rfl⟩) (nomark _))))) (pss_one (ps_set (i := 4) scCr.nd rfl (Or.inl rfl) (pe_op op_add (pv 4) pe_int))) pss_nil))) (pss_one (ps_ret (pv 4))))))), ?_⟩
    have okG := R.okG
    have okT := R.okT
    have hm1 : 1 ≤ m := okT.1
    have hm2 : m ≤ gs.length := okT.2
    have hg20 := okG.1
    have hP := per_posR okG okT
    have nP : (flds g t o).lookup ("period" : Str) = none := flds_no _ _ _ (by decide +kernel) (by decide +kernel) (by decide +kernel)
    obtain ⟨dx, hob⟩ := R.ob
    refine ⟨_, rfl, p, dx, _, rfl, hob, nP, p, g, t, o, gs, .rep m, rfl, R, ?_⟩
    refine ⟨_, rfl, p, g, t, o, gs, m, rfl, R, fun d ks lv H1 hd S1 hd1 hkl hM => ?_⟩
    -- the sum
    refine ⟨d, .dK (kvI ks lv), hd1, trivial, fun od => ?_⟩
    have hdL : (upd H1 d (.frz od (.dK (kvI ks lv)))) d = some (.frz od (.dK (kvI ks lv))) := upd_same
    have kpL : ∀ b u, b ≠ d → H1 b = some u → (upd H1 d (.frz od (.dK (kvI ks lv)))) b = some u := fun b u nb e => by rw [upd_ne nb]; exact e
    generalize upd H1 d (.frz od (.dK (kvI ks lv))) = HL at hdL kpL
    refine ⟨_, rfl, d, od, kvI ks lv, rfl, hdL, fun D hD => lc_it (walk_values (d := d) (o := od) (kvs := kvI ks lv)) (fun i H' => Same HL H' ∧ H' D = some (.lst ((((ks.take i).filter fun r => decide (lv r ≤ lim)).map fun r => (lim - lv r) / per gs m + 1).map V.int))) ⟨same_new hD, upd_same⟩ (fun i H' _ z => z.1 _ _ hdL) (fun i x H4 H5 hi z hy => ?_) (fun H5 z => ?_)⟩
    · obtain ⟨S4, hD4⟩ := z
      obtain ⟨rfl, kk, hkk⟩ := hy
      rw [kvI_len] at hi
      have hri : ks[i]? = some ks[i] := List.getElem?_eq_getElem hi
      generalize ks[i] = r at hri
      have hx : x = .int (lv r) := by
        unfold kvI at hkk
        rw [List.getElem?_map, hri] at hkk
        cases hkk
        rfl
      subst hx
      have hlog : (per gs m).natAbs.log2 < 9000 := by
        have hb := (per_bd okG hm1 hm2).2
        refine (Nat.log2_lt (by omega)).mpr (Nat.lt_of_lt_of_le (m := 2 ^ 45) ?_ (Nat.pow_le_pow_right (by decide) (by decide)))
        have : (2 : Nat) ^ 45 = 35184372088832 := by decide
        omega
      refine ⟨rfl, ?_⟩
      refine ⟨_, rfl, _, rfl, _, _, rfl, rfl, _, rfl, ?_⟩
      have hlen : (((ks.take i).filter fun r => decide (lv r ≤ lim)).map fun r => (lim - lv r) / per gs m + 1).length ≤ 400 := by
        rw [List.length_map]
        exact Nat.le_trans (List.length_filter_le ..) (by rw [List.length_take]; omega)
      by_cases hle : lv r ≤ lim
      · refine iteTb (decide_eq_true hle) ?_
        refine ⟨_, rfl, _, rfl, _, _, rfl, rfl, _, rfl, _, _, rfl, rfl, ⟨hP, hlog⟩, _, _, rfl, rfl, _, hD4, by rw [List.length_map]; exact small1000 (by omega), same_app hD S4, ?_⟩
        rw [upd_same, List.take_add_one, hri, List.filter_append, List.map_append, List.map_append]
        show some (HO.lst (_ ++ [V.int ((lim - lv r) / per gs m + 1)])) = some (HO.lst (_ ++ List.map V.int (List.map (fun r => (lim - lv r) / per gs m + 1) (List.filter (fun r => decide (lv r ≤ lim)) [r]))))
        rw [List.filter_cons, if_pos (decide_eq_true hle)]
        rfl
      · refine iteFb (decide_eq_false hle) ⟨S4, ?_⟩
        rw [hD4, List.take_add_one, hri, List.filter_append]
        show _ = some (HO.lst (List.map V.int (List.map (fun r => (lim - lv r) / per gs m + 1) (_ ++ List.filter (fun r => decide (lv r ≤ lim)) [r]))))
        rw [List.filter_cons, if_neg (by rw [decide_eq_false hle]; decide), List.filter_nil, List.append_nil]
    obtain ⟨S5, hD5⟩ := z
    rw [kvI_len, List.take_length] at hD5
    refine ⟨S5 _ _ hdL, ?_⟩
    have nDd : D ≠ d := fun z => by rw [z, hdL] at hD; cases hD
    have S6 : Same H1 (upd H5 d (.dK (kvI ks lv))) := fun b u e => by
      by_cases nb : b = d
      · subst nb
        rw [upd_same, ← hd1, e]
      · rw [upd_ne nb]
        exact S5 _ _ (kpL _ _ nb e)
    have hD6 : (upd H5 d (.dK (kvI ks lv))) D = some (.lst (((ks.filter fun r => decide (lv r ≤ lim)).map fun r => (lim - lv r) / per gs m + 1).map V.int)) := by rw [upd_ne nDd]; exact hD5
    have hd6 : (upd H5 d (.dK (kvI ks lv))) d = some (.dK (kvI ks lv)) := upd_same
    generalize upd H5 d (.dK (kvI ks lv)) = H6 at S6 hD6 hd6
    clear hD5 S5 hD nDd hdL kpL HL
    refine ⟨D, _, rfl, SqL.of hD6, ?_⟩
    have S06 := S1.trans S6
    have R6 := R.mono S06
    generalize hsum : (((ks.filter fun r => decide (lv r ≤ lim)).map fun r => (lim - lv r) / per gs m + 1)).sum = sm
    -- the single ones
    refine ⟨_, rfl, p, g, t, o, gs, m, rfl, R6, fun so H7 hso S7 hso1 => ?_⟩
    refine ⟨so, offL gs (.rep m) (gs.length - m), rfl, hso1, by rw [offL_len]; omega, fun d2 ks2 as2 ad2 PS H8 hd2 G => ?_⟩
    rw [offL_len] at G
    have hkeys := fun r => G.keys r
    have hk5 : ks2.length ≤ 5000 := by have := G.lk; have := G.lp; omega
    refine ⟨d2, .dK (kvsOf ks2 as2), rfl, G.D.hd, trivial, fun od2 => ?_⟩
    have S8 : Same H6 (upd H8 d2 (.frz od2 (.dK (kvsOf ks2 as2)))) := fun b u e => by
      rw [upd_ne (ne_of_none (S7 _ _ e) hd2)]
      exact G.S _ _ (S7 _ _ e)
    have hd8 : (upd H8 d2 (.frz od2 (.dK (kvsOf ks2 as2)))) d2 = some (.frz od2 (.dK (kvsOf ks2 as2))) := upd_same
    generalize (upd H8 d2 (.frz od2 (.dK (kvsOf ks2 as2)))) = H9 at S8 hd8 ⊢
    refine ⟨d2, od2, rfl, .inl ⟨kvsOf ks2 as2, hd8, for_it (walk_keys (d := d2) (o := od2) (kvs := kvsOf ks2 as2)) (fun i σ H' => ∃ v5, σ = [some (.ref p), some (.int lim), some (.int (per gs m)), some (.ref d), some (.int (sm + ((((ks2.take i).filter fun r => decide (r ≤ lim) && decide (r < if r % per gs m ∈ ks then lv (r % per gs m) else r + 1)).length : Nat) : Int))), v5] ∧ Same H9 H')
      ⟨none, by rw [List.take_zero]; show _ = [_, _, _, _, some (V.int (sm + 0)), none]; rw [Int.add_zero]; rfl, Same.refl _⟩ (fun i σ H' _ z => let ⟨_, _, z⟩ := z; z _ _ hd8) ?_ ?_⟩⟩
    · rintro i x σ Ha Hb hi ⟨v5, rfl, Sa⟩ hy
      obtain ⟨rfl, kk, vv, hkk, rfl⟩ := hy
      rw [kvsOf_len G.D.len] at hi
      have hri : ks2[i]? = some ks2[i] := List.getElem?_eq_getElem hi
      have hai : as2[i]? = some (as2[i]'(by rw [G.D.len]; exact hi)) := List.getElem?_eq_getElem _
      generalize ks2[i] = r at hri
      generalize as2[i]'(by rw [G.D.len]; exact hi) = a at hai
      have ekk : (kvsOf ks2 as2)[i]? = some ((Sum.inl r : Key), V.ref a) := by
        unfold kvsOf
        rw [List.getElem?_zipWith, hri, hai]
      rw [ekk] at hkk
      cases hkk
      have hda := Sa _ _ (S8 _ _ hd6)
      have etk : (ks2.take (i + 1)) = ks2.take i ++ [r] := by rw [List.take_add_one, hri]; rfl
      refine ⟨_, rfl, _, rfl, _, _, rfl, rfl, _, rfl, ?_⟩
      by_cases hle : r ≤ lim
      · refine iteTb (decide_eq_true hle) ?_
        refine ⟨_, rfl, _, rfl, d, rfl, .inl ⟨_, .inl hda⟩, _, rfl, _, rfl, _, _, rfl, rfl, hP, _, rfl, _, _, rfl, rfl, _, DGet.k (k := Sum.inl (r % per gs m)) hda, ?_⟩
        rw [kvI_val]
        have eg : ((if r % per gs m ∈ ks then some (V.int (lv (r % per gs m))) else none).getD (V.int (r + 1))) = V.int (if r % per gs m ∈ ks then lv (r % per gs m) else r + 1) := by
          by_cases h : r % per gs m ∈ ks
          · rw [if_pos h, if_pos h]; rfl
          · rw [if_neg h, if_neg h]; rfl
        rw [eg]
        refine ⟨_, _, rfl, rfl, _, rfl, ?_⟩
        by_cases h2 : r < (if r % per gs m ∈ ks then lv (r % per gs m) else r + 1)
        · refine iteTb (decide_eq_true h2) ?_
          refine ⟨_, rfl, _, _, rfl, rfl, some (.int r), ?_, Sa⟩
          · rw [etk, List.filter_append, List.length_append, List.filter_cons, if_pos (by rw [decide_eq_true hle, decide_eq_true h2]; rfl)]
            show _ = [_, _, _, _, some (V.int (sm + (((_ + 1 : Nat)) : Int))), _]
            rw [Int.natCast_add, ← Int.add_assoc]
            rfl
        · refine iteFb (decide_eq_false h2) ?_
          refine ⟨some (.int r), ?_, Sa⟩
          · rw [etk, List.filter_append, List.length_append, List.filter_cons, if_neg (by rw [decide_eq_true hle, decide_eq_false h2]; decide)]
            rfl
      · refine iteFb (decide_eq_false hle) ?_
        refine ⟨some (.int r), ?_, Sa⟩
        rw [etk, List.filter_append, List.length_append, List.filter_cons, if_neg (by rw [decide_eq_false hle]; intro z; cases z)]
        rfl
    · rintro σ Ha ⟨v5, rfl, Sa⟩
      rw [kvsOf_len G.D.len, List.take_length]
      have hk := (NumOf.list G.D.nk fun r => decide (r ≤ lim) && decide (r < if r % per gs m ∈ ks then lv (r % per gs m) else r + 1)).congr (Q := fun r => DifB gs (.rep m) (gs.length - m) r ∧ r ≤ lim ∧ ¬ RepDif gs m r) fun r => by
        rw [hkeys r, hM.rep okG okT, Bool.and_eq_true, decide_eq_true_iff, decide_eq_true_iff]
        constructor
        · rintro ⟨a, b, c⟩
          refine ⟨a, b, fun ⟨z1, z2⟩ => ?_⟩
          rw [if_pos z1] at c
          omega
        · rintro ⟨a, b, c⟩
          refine ⟨a, b, ?_⟩
          by_cases z1 : r % per gs m ∈ ks
          · rw [if_pos z1]
            rcases Int.lt_or_le r (lv (r % per gs m)) with y | y
            · exact y
            · exact absurd ⟨z1, y⟩ c
          · rw [if_neg z1]
            omega
      obtain ⟨n, hN, en⟩ := rep_total okG okT hM hk
      rw [hsum] at en
      refine ⟨_, rfl, ?_⟩
      have kk := k _ Ha hN (S06.trans (S8.trans Sa))
      rw [Int.natCast_add, en] at kk
      exact kk
end
end RS
namespace RS
open PySem L2
theorem cut_less (xs : List V) (h : 0 < xs.length) : cutV xs none (some (-1)) = xs.take (xs.length - 1) := by
  unfold cutV HT.sIx
  simp
  congr 1
  omega
theorem aaT {gs : List Int} {b x : Int} {r : V} (okG : GapsOk gs) (okT : TlOk gs.length (.times b)) (h : AA gs (.times b) x r) : (∃ n : Nat, r = .int (n : Int) ∧ off gs (.times b) n = x) ∨ (r = .non ∧ ∀ n : Nat, off gs (.times b) n ≠ x) := by
  obtain ⟨a, hF, h⟩ := h
  rcases h with ⟨n, rfl, e, rfl⟩ | ⟨hn, rfl⟩
  · exact .inl ⟨n, rfl, e⟩
  · refine .inr ⟨rfl, fun n e => ?_⟩
    rcases hF with ⟨_, z, _⟩ | ⟨k, rfl, _, h1, h2⟩
    · cases z
    · have h3 : n ≤ k := by
        rcases Nat.lt_or_ge k n with z | z
        · have := (off_ltT okG okT).mpr z
          omega
        · exact z
      have h4 : k ≤ n := by
        rcases Nat.lt_or_ge n k with z | z
        · have h5 := h2 (by omega)
          have h6 := off_leT okG okT (show n ≤ k - 1 by omega)
          omega
        · exact z
      have : k = n := by omega
      subst this
      exact hn k rfl e
section
variable {P : Program} {w : World} {K : PySem.W.Frag} {mg : Str → Option Value} {base : Heap}
/-! ### _count_growing -/
def spCg (C : Addr) : Sp := fun vs H Q _ => ∃ (p g t o : Addr) (gs : List Int) (b lim : Int) (n0 k0 : Nat), vs = [.ref p, .int lim, .int (n0 : Int)] ∧ RuleAt C H p g t o gs (.times b) ∧ 0 ≤ lim ∧ lim < 2 ^ 150 ∧ Bey gs b (preS gs) n0 ∧ NumB gs (.times b) n0 lim k0 ∧ ∀ (n : Nat) H', NumD gs (.times b) lim n → Same H H' → Q (.int ((n : Int) - (k0 : Int))) H'
def cgN : List Str := ["rule", "limit", "first", "offsets", "count", "low", "second", "gap"]
theorem scCg : FnScope cgN ["rule", "limit", "first"] (defScope s_count_growing) := ⟨rfl, rfl, rfl, by decide +kernel, rfl, by decide +kernel, by decide +kernel⟩
theorem ok_cg {f C fB fA : Addr} {fd fdB fdA : FuncData} (F : Fun K "_count_growing" "_count_growing" s_count_growing f fd) (T : Txt K mg C)
    (GB : FnOk P w K mg base CX0 3 fB fdB ["rule", "reach"] (spOb C)) (bB : Binds K fdB ["rule", "reach"] []) (mB : mg "offsets_beyond" = some (.ref fB)) (kB : PySem.W.keepIn K (.ref fB) = true)
    (GA : FnOk P w K mg base CX0 6 fA fdA ["self", "distance"] (spAA C)) (bA : Binds K fdA ["self", "distance"] []) (mA : Meth K C "attempt_at" fA) : FnOk P w K mg base CX0 7 f fd ["rule", "limit", "first"] (spCg C) := by
  refine F.ok scCg (fun vs H Q E h => ?_) (fun cdv A outer s H vs Q E hr h => ?_)
  · obtain ⟨p, g, t, o, gs, b, lim, n0, k0, rfl, _⟩ := h
    rfl
  · obtain ⟨p, g, t, o, gs, b, lim, n0, k0, rfl, R, hl0, hl1, B0, hN0, k⟩ := h
    have hr3 := hr.mono (show 3 ≤ 6 by decide)
    refine ⟨_, (pss_cons (ps_set (i := 3) scCg.nd rfl (Or.inl rfl) (pe_slice sl_list (pe_call GB hr3 rfl mB kB bB .nil pass0 (pa_cons (pv 0) (pa_cons (pv 1) pa_nil))) po_none (po_some (pe_un un_neg pe_int)))) (pss_cons (ps_set (i := 4) scCg.nd rfl (Or.inl rfl) pe_int) (pss_cons (ps_set (i := 5) scCg.nd rfl (Or.inl rfl) pe_int) (pss_cons (ps_for PassesOwn.never rfl (pi_range2 rfl T.range (pa_cons (pv 2) (pa_cons (pe_callB call_len_seq (by rfl) T.len (by decide +kernel) (pa_cons (pv 3) pa_nil)) pa_nil))) (pg_name (i := 6) scCg.nd rfl (Or.inl rfl)) (pss_cons (ps_while PassesOwn.never (pt_cmpR op_gt (pe_op op_sub (pe_ix ix_list (pv 3) (pv 6) (fun _ _ => rfl)) (pe_ix ix_list (pv 3) (pv 5) (fun _ _ => rfl))) (pv 1) (nomark _)) (pss_one (ps_set (i := 5) scCg.nd rfl (Or.inl rfl) (pe_op op_add (pv 5) pe_int)))) (pss_cons (ps_set (i := 4) scCg.nd rfl (Or.inl rfl) (pe_op op_sub (pe_op op_add (pv 4) (pv 6)) (pv 5))) (pss_cons (ps_set (i := 7) scCg.nd rfl (Or.inl rfl) (pe_op op_sub (pe_ix ix_list (pv 3) (pv 6) (fun _ _ => rfl)) (pe_ix ix_list (pv 3) (pe_op op_sub (pv 6) pe_int) (fun _ _ => rfl)))) (pss_one (ps_if (pt_cmpR op_notN (pe_meth (pv 0) T.cl mA GA hr bA .nil pass0 (pa_cons (pe_op op_sub (pe_ix ix_list (pv 3) (pe_op op_sub (pv 6) pe_int) (fun _ _ => rfl)) (pv 7)) pa_nil)) pe_non (nomark _)) (pss_one (ps_set (i := 4) scCg.nd rfl (Or.inl rfl) (pe_op op_sub (pv 4) pe_int))) pss_nil)))))) (pss_one (ps_ret (pv 4))))))), ?_⟩
    have okG := R.okG
    have okT := R.okT
    have hg20 := okG.1
    have nA : (flds g t o).lookup ("attempt_at" : Str) = none := flds_no _ _ _ (by decide +kernel) (by decide +kernel) (by decide +kernel)
    refine ⟨_, rfl, _, rfl, p, g, t, o, gs, .times b, lim, rfl, R, by omega, fun q0 N H1 hq0 S1 hB hq01 => ?_⟩
    have hB : Bey gs b lim N := hB
    have hNlo := hB.lo
    have hN0lo := B0.lo
    have hN067 := Bey.le67 okG okT B0
    have hNhi := hB.bd okG okT (R := 150) hl1 (by decide)
    refine ⟨_, rfl, _, rfl, q0, _, rfl, SqL.of hq01, fun q hq => ?_⟩
    have S2 := S1.trans (same_new (o := .lst (cutV ((offL gs (.times b) N).map V.int) none (some (-1)))) hq)
    have hq1 : (upd H1 q (.lst (cutV ((offL gs (.times b) N).map V.int) none (some (-1))))) q = some (.lst ((offL gs (.times b) (N - 1)).map V.int)) := by
      rw [upd_same, cut_less _ (by rw [List.length_map, offL_len]; omega), List.length_map, offL_len, ← List.map_take, offL_takeN _ _ (by omega)]
    generalize (upd H1 q (.lst (cutV ((offL gs (.times b) N).map V.int) none (some (-1))))) = H2 at S2 hq1 ⊢
    have lenO : (((offL gs (.times b) (N - 1)).map V.int).length) = N - 1 := by rw [List.length_map, offL_len]
    have at_ : ∀ j : Nat, j < N - 1 → atI ((offL gs (.times b) (N - 1)).map V.int) (j : Int) = some (.int (off gs (.times b) j)) := fun j hj => atI_nat (by rw [List.getElem?_map, offL_get gs _ hj]; rfl)
    have hn : ((((N - 1 : Nat)) : Int) - (n0 : Int)).toNat = N - 1 - n0 := by omega
    refine ⟨_, rfl, _, rfl, q, _, rfl, .inl (SqL.of hq1), ?_⟩
    rw [lenO]
    refine ⟨_, _, rfl, ⟨by omega, by omega, by omega, by omega⟩, for_range (lo := (n0 : Int)) (n := ((((N - 1 : Nat)) : Int) - (n0 : Int)).toNat) (fun i σ H' => ∃ (cnt : Int) (low kk : Nat) (v6 v7 : Option V), σ = [some (.ref p), some (.int lim), some (.int (n0 : Int)), some (.ref q), some (.int cnt), some (.int (low : Int)), v6, v7] ∧ Same H2 H' ∧ NumB gs (.times b) (n0 + i) lim kk ∧ (kk : Int) = (k0 : Int) + cnt ∧ low < n0 + i ∧ ∀ l < low, lim < off gs (.times b) (n0 + i) - off gs (.times b) l)
      ⟨0, 0, k0, none, none, rfl, Same.refl _, hN0, by omega, by omega, fun l z => absurd z (Nat.not_lt_zero _)⟩ ?_ ?_⟩
    · rintro i σ H3 hi ⟨cnt, low, kk, v6, v7, rfl, S3, hB1, ek, hlow, hfar⟩
      rw [hn] at hi
      obtain ⟨st, est⟩ : ∃ st : Nat, n0 + i = st := ⟨_, rfl⟩
      rw [est] at hB1 hlow hfar
      have hst1 : st < N - 1 := by omega
      have hst2 : n0 ≤ st := by omega
      dsimp only [gName]
      rw [show (n0 : Int) + (i : Int) = (st : Int) by omega]
      have hgl := hB.gapl okG okT (s := st) (by omega) (by omega)
      have hq3 := S3 _ _ hq1
      -- the first that is near
      refine ⟨fun mm σ H' => H' = H3 ∧ ∃ low : Nat, mm = st - low ∧ low < st ∧ (∀ l < low, lim < off gs (.times b) st - off gs (.times b) l) ∧ σ = [some (.ref p), some (.int lim), some (.int (n0 : Int)), some (.ref q), some (.int cnt), some (.int (low : Int)), some (.int (st : Int)), v7], ⟨st - low, rfl, low, rfl, hlow, hfar, rfl⟩, ?_⟩
      rintro mm σ H' ⟨rfl, low, rfl, hlow, hfar, rfl⟩
      refine ⟨_, rfl, _, rfl, q, _, _, _, rfl, rfl, SqL.of hq3, at_ st (by omega), _, rfl, _, rfl, q, _, _, _, rfl, rfl, SqL.of hq3, at_ low (by omega), _, _, rfl, rfl, _, rfl, _, _, rfl, rfl, _, rfl, ?_⟩
      by_cases hgt : off gs (.times b) st - off gs (.times b) low > lim
      · refine iteTb (decide_eq_true hgt) ?_
        have hlt : low + 1 < st := by
          rcases Nat.lt_or_ge (low + 1) st with z | z
          · exact z
          · rw [show low = st - 1 by omega] at hgt
            omega
        refine ⟨fun σ' H2 => H2 = H' ∧ σ' = [some (.ref p), some (.int lim), some (.int (n0 : Int)), some (.ref q), some (.int cnt), some (.int ((low + 1 : Nat) : Int)), some (.int (st : Int)), v7], ?_, ?_⟩
        · rintro σ' H2 ⟨rfl, rfl⟩
          refine ⟨_, ?_, rfl, low + 1, rfl, hlt, fun l hl => ?_, rfl⟩
          · omega
          · by_cases e : l = low
            · rw [e]
              omega
            · exact hfar l (by omega)
        · exact ⟨_, rfl, _, _, rfl, rfl, rfl, by rw [Int.natCast_add]; rfl⟩
      · refine iteFb (decide_eq_false hgt) ?_
        refine ⟨_, rfl, _, rfl, _, _, rfl, rfl, _, rfl, _, _, rfl, rfl, ?_⟩
        refine ⟨_, rfl, _, rfl, q, _, _, _, rfl, rfl, SqL.of hq3, at_ st (by omega), _, rfl, _, rfl, _, _, rfl, rfl, q, _, _, .int (off gs (.times b) (st - 1)), rfl, rfl, SqL.of hq3, ?_, _, _, rfl, rfl, ?_⟩
        · show atI _ ((st : Int) - 1) = _
          rw [show (st : Int) - 1 = ((st - 1 : Nat) : Int) by omega]
          exact at_ (st - 1) (by omega)
        have R3 := (R.mono S2).mono S3
        obtain ⟨dx, hob⟩ := R3.ob
        have hup : off gs (.times b) (st - 1) - (off gs (.times b) st - off gs (.times b) (st - 1)) ≤ off gs (.times b) 1000 := by
          have a1 := off_leT okG okT (show st - 1 ≤ st by omega)
          have a2 := off_leT okG okT (show st - 1 ≤ 1000 by omega)
          omega
        refine ⟨_, rfl, p, dx, _, rfl, hob, nA, _, rfl, _, rfl, _, _, rfl, rfl, q, _, _, .int (off gs (.times b) (st - 1)), rfl, rfl, SqL.of hq3, ?_, _, rfl, _, _, rfl, rfl, p, g, t, o, gs, .times b, off gs (.times b) (st - 1) - (off gs (.times b) st - off gs (.times b) (st - 1)), rfl, R3, hup, fun r H4 S4 hAA => ?_⟩
        · show atI _ ((st : Int) - 1) = _
          rw [show (st : Int) - 1 = ((st - 1 : Nat) : Int) by omega]
          exact at_ (st - 1) (by omega)
        have hle : off gs (.times b) st - off gs (.times b) low ≤ lim := by omega
        have hnext : ∀ l < low, lim < off gs (.times b) (n0 + (i + 1)) - off gs (.times b) l := fun l hl => by
          have a1 := off_leT okG okT (show st ≤ n0 + (i + 1) by omega)
          have a2 := hfar l hl
          omega
        have e1 : n0 + (i + 1) = st + 1 := by omega
        rcases aaT okG okT hAA with ⟨n, rfl, hx⟩ | ⟨rfl, hx⟩
        · obtain ⟨k2, hk2, ek2⟩ := NumB.next okG okT B0 hst2 hB1 hlow hle hfar (old := true) ⟨fun _ => ⟨n, hx⟩, fun _ => rfl⟩
          rw [if_pos rfl] at ek2
          refine ⟨rfl, _, rfl, iteTb rfl ?_⟩
          refine ⟨_, rfl, _, _, rfl, rfl, ?_⟩
          exact ⟨_, low, k2, _, _, rfl, S3.trans S4, e1 ▸ hk2, by omega, by omega, hnext⟩
        · obtain ⟨k2, hk2, ek2⟩ := NumB.next okG okT B0 hst2 hB1 hlow hle hfar (old := false) ⟨(fun z => by cases z), fun ⟨n, z⟩ => absurd z (hx n)⟩
          rw [if_neg (by decide)] at ek2
          refine ⟨rfl, _, rfl, iteFb rfl ?_⟩
          exact ⟨_, low, k2, _, _, rfl, S3.trans S4, e1 ▸ hk2, by omega, by omega, hnext⟩
    · rintro σ H3 ⟨cnt, low, kk, v6, v7, rfl, S3, hB1, ek, _⟩
      rw [hn] at hB1
      refine ⟨_, rfl, ?_⟩
      have := k kk H3 (hB1.all okG okT hB (by omega)) (S2.trans S3)
      rw [show cnt = (kk : Int) - (k0 : Int) by omega]
      exact this
end
end RS
namespace RS
open PySem L2
section
variable {P : Program} {w : World} {K : PySem.W.Frag} {mg : Str → Option Value} {base : Heap}
/-! ### count_distances -/
def spCd (C : Addr) : Sp := fun vs H Q _ => ∃ (p g t o : Addr) (gs : List Int) (tl : Tl) (lim : Int), vs = [.ref p, .int lim] ∧ RuleAt C H p g t o gs tl ∧ 0 ≤ lim ∧ lim < 2 ^ 150 ∧ ∀ (n : Nat) H', NumD gs tl lim n → Same H H' → Q (.int (n : Int)) H'
def cdN : List Str := ["rule", "limit", "offsets", "count", "difference"]
theorem scCd : FnScope cdN ["rule", "limit"] (defScope s_count_distances) := ⟨rfl, rfl, rfl, by decide +kernel, rfl, by decide +kernel, by decide +kernel⟩
theorem ok_cd {f C fC fF fR fO fD fT fG : Addr} {fd fdC fdF fdR fdO fdD fdT fdG : FuncData} (F : Fun K "count_distances" "count_distances" s_count_distances f fd) (T : Txt K mg C)
    (GC : FnOk P w K mg base CX0 2 fC fdC ["part", "value", "low", "high"] spCb) (bC : Binds K fdC ["part", "value", "low", "high"] []) (mC : mg "check_bound" = some (.ref fC)) (kC : PySem.W.keepIn K (.ref fC) = true)
    (GF : FnOk P w K mg base CX0 1 fF fdF ["self"] (spFRA C)) (bF : Binds K fdF ["self"] []) (mF : Meth K C "first_repeating" fF)
    (GR : FnOk P w K mg base CX0 6 fR fdR ["rule", "limit"] (spCr C)) (bR : Binds K fdR ["rule", "limit"] []) (mR : mg "_count_repeating" = some (.ref fR)) (kR : PySem.W.keepIn K (.ref fR) = true)
    (GO : FnOk P w K mg base CX0 5 fO fdO ["rule"] (spTl2 C)) (bO : Binds K fdO ["rule"] []) (mO : mg "_telling_offsets" = some (.ref fO)) (kO : PySem.W.keepIn K (.ref fO) = true)
    (GD : FnOk P w K mg base CX0 1 fD fdD ["offsets"] spPd) (bD : Binds K fdD ["offsets"] []) (mD : mg "_pairs_by_difference" = some (.ref fD)) (kD : PySem.W.keepIn K (.ref fD) = true)
    (GT : FnOk P w K mg base CX0 1 fT fdT ["self"] (spTail C)) (bT : Binds K fdT ["self"] []) (mT : Meth K C "tail" fT)
    (GG : FnOk P w K mg base CX0 7 fG fdG ["rule", "limit", "first"] (spCg C)) (bG : Binds K fdG ["rule", "limit", "first"] []) (mG : mg "_count_growing" = some (.ref fG)) (kG : PySem.W.keepIn K (.ref fG) = true) : FnOk P w K mg base CX0 8 f fd ["rule", "limit"] (spCd C) := by
  refine F.ok scCd (fun vs H Q E h => ?_) (fun cdv A outer s H vs Q E hr h => ?_)
  · obtain ⟨p, g, t, o, gs, tl, lim, rfl, _⟩ := h
    rfl
  · obtain ⟨p, g, t, o, gs, tl, lim, rfl, R, hl0, hl1, k⟩ := h
    have hr1 := hr.mono (show 1 ≤ 7 by decide)
    have hr2 := hr.mono (show 2 ≤ 7 by decide)
    have hr5 := hr.mono (show 5 ≤ 7 by decide)
    have hr6 := hr.mono (show 6 ≤ 7 by decide)
    refine ⟨_, (pss_cons (ps_expr (pe_call GC hr2 rfl mC kC bC .nil pass0 (pa_cons pe_str (pa_cons (pv 1) (pa_cons pe_int (pa_cons pe_non pa_nil)))))) (pss_cons (ps_if (pt_cmpR op_notN (pe_meth0 (pv 0) T.cl mF GF hr1 bF .nil pass0) pe_non (nomark _)) (pss_one (ps_ret (pe_call GR hr6 rfl mR kR bR .nil pass0 (pa_cons (pv 0) (pa_cons (pv 1) pa_nil))))) pss_nil) (pss_cons (ps_set (i := 2) scCd.nd rfl (Or.inl rfl) (pe_call GO hr5 rfl mO kO bO .nil pass0 (pa_cons (pv 0) pa_nil))) (pss_cons (ps_set (i := 3) scCd.nd rfl (Or.inl rfl) (pe_callB call_len_seq (by rfl) T.len (by decide +kernel) (pa_cons (pe_lc (own := [("difference", 4)]) (g := gName 4) rfl scCd.nd (pi_keys (pe_frz (pe_call GD hr1 rfl mD kD bD .nil pass0 (pa_cons (pv 2) pa_nil)))) (blkOk_by (own := [("difference", 4)]) (N := cdN) (sc := (defScope s_count_distances)) (by decide +kernel)) (fun _ _ _ _ _ => (pg_name (i := 4) scCd.nd rfl (Or.inl rfl))) (fun _ _ _ _ _ => pts_one (pt_cmpR op_le (pv 4) (pv 1) (nomark _))) (fun _ _ _ _ _ => (pv 4))) pa_nil))) (pss_cons (ps_if (pt_cmpR op_eq (pe_ix ix_tup (pe_meth0 (pv 0) T.cl mT GT hr1 bT .nil pass0) pe_int (fun _ _ => rfl)) pe_str (nomark _)) (pss_one (ps_ret (pe_op op_add (pv 3) (pe_call GG hr rfl mG kG bG .nil pass0 (pa_cons (pv 0) (pa_cons (pv 1) (pa_cons (pe_callB call_len_seq (by rfl) T.len (by decide +kernel) (pa_cons (pv 2) pa_nil)) pa_nil))))))) pss_nil) (pss_one (ps_ret (pv 3)))))))), ?_⟩
    have okG := R.okG
    have okT := R.okT
    have hg20 := okG.1
    have nF : (flds g t o).lookup ("first_repeating" : Str) = none := flds_no _ _ _ (by decide +kernel) (by decide +kernel) (by decide +kernel)
    have nT : (flds g t o).lookup ("tail" : Str) = none := flds_no _ _ _ (by decide +kernel) (by decide +kernel) (by decide +kernel)
    obtain ⟨dx, hob⟩ := R.ob
    refine ⟨_, rfl, _, lim, 0, rfl, hl0, ?_⟩
    refine ⟨_, rfl, p, dx, _, rfl, hob, nF, p, g, t, o, gs, tl, rfl, R, ?_⟩
    by_cases hrep : ∃ m, tl = .rep m
    · obtain ⟨m, rfl⟩ := hrep
      refine ⟨rfl, _, rfl, iteTb rfl ?_⟩
      exact ⟨_, rfl, _, rfl, p, g, t, o, gs, m, lim, rfl, R, hl0, hl1, k⟩
    have hfr : frV gs tl = .non := by
      cases tl with
      | rep m => exact absurd ⟨m, rfl⟩ hrep
      | fin => rfl
      | times b => rfl
    rw [hfr]
    refine ⟨rfl, _, rfl, iteFb rfl ?_⟩
    refine ⟨_, rfl, p, g, t, o, gs, tl, rfl, R, fun q n H1 hq S1 hT hq1 => ?_⟩
    have hn70 := TellN.le70 okG okT hT
    refine ⟨_, rfl, q, offL gs tl n, rfl, hq1, by rw [offL_len]; exact hn70, fun d ks as ad PS H2 hd G => ?_⟩
    rw [offL_len] at G
    have hkeys := fun r => G.keys r
    have hk5 : ks.length ≤ 5000 := by have := G.lk; have := G.lp; omega
    refine ⟨d, .dK (kvsOf ks as), rfl, G.D.hd, trivial, fun od => ?_⟩
    have S2 : Same H1 (upd H2 d (.frz od (.dK (kvsOf ks as)))) := fun b u e => by
      rw [upd_ne (ne_of_none e hd)]
      exact G.S _ _ e
    have hd2 : (upd H2 d (.frz od (.dK (kvsOf ks as)))) d = some (.frz od (.dK (kvsOf ks as))) := upd_same
    generalize (upd H2 d (.frz od (.dK (kvsOf ks as)))) = H3 at S2 hd2 ⊢
    refine ⟨d, od, rfl, .inl ⟨kvsOf ks as, hd2, fun D hD => lc_it (walk_keys (d := d) (o := od) (kvs := kvsOf ks as)) (fun i H' => Same H3 H' ∧ H' D = some (.lst (((ks.take i).filter fun r => decide (r ≤ lim)).map V.int))) ⟨same_new hD, upd_same⟩ (fun i H' _ z => z.1 _ _ hd2) (fun i x H4 H5 hi z hy => ?_) (fun H5 z => ?_)⟩⟩
    · obtain ⟨S4, hD4⟩ := z
      obtain ⟨rfl, kk, vv, hkk, rfl⟩ := hy
      rw [kvsOf_len G.D.len] at hi
      have hri : ks[i]? = some ks[i] := List.getElem?_eq_getElem hi
      have hai : as[i]? = some (as[i]'(by rw [G.D.len]; exact hi)) := List.getElem?_eq_getElem _
      generalize ks[i] = r at hri
      generalize as[i]'(by rw [G.D.len]; exact hi) = a at hai
      have ekk : (kvsOf ks as)[i]? = some ((Sum.inl r : Key), V.ref a) := by
        unfold kvsOf
        rw [List.getElem?_zipWith, hri, hai]
      rw [ekk] at hkk
      cases hkk
      have hlen : ((ks.take i).filter fun r => decide (r ≤ lim)).length ≤ 5000 := Nat.le_trans (List.length_filter_le ..) (by rw [List.length_take]; omega)
      refine ⟨rfl, ?_⟩
      refine ⟨_, rfl, _, rfl, _, _, rfl, rfl, _, rfl, ?_⟩
      by_cases hle : r ≤ lim
      · refine iteTb (decide_eq_true hle) ?_
        refine ⟨_, rfl, _, hD4, by rw [List.length_map]; exact small_line (by omega), same_app hD S4, ?_⟩
        rw [upd_same, List.take_add_one, hri, List.filter_append, List.map_append]
        show _ = some (HO.lst (_ ++ List.map V.int (List.filter (fun r => decide (r ≤ lim)) [r])))
        rw [List.filter_cons, if_pos (decide_eq_true hle)]
        rfl
      · refine iteFb (decide_eq_false hle) ⟨S4, ?_⟩
        rw [hD4, List.take_add_one, hri, List.filter_append]
        show _ = some (HO.lst (List.map V.int (_ ++ List.filter (fun r => decide (r ≤ lim)) [r])))
        rw [List.filter_cons, if_neg (by rw [decide_eq_false hle]; decide), List.filter_nil, List.append_nil]
    obtain ⟨S5, hD5⟩ := z
    rw [kvsOf_len G.D.len, List.take_length] at hD5
    have hB : NumB gs tl n lim (ks.filter fun r => decide (r ≤ lim)).length := (NumOf.list G.D.nk fun r => decide (r ≤ lim)).congr fun r => by
      rw [hkeys r, decide_eq_true_iff]
    have S15 := S2.trans S5
    have S05 := S1.trans S15
    have hq5 := S15 _ _ hq1
    have R5 := R.mono S05
    clear S2 hd2 hD G hkeys
    generalize (ks.filter fun r => decide (r ≤ lim)) = fl at hD5 hB
    refine ⟨D, _, rfl, .inl (SqL.of hD5), ?_⟩
    rw [List.length_map]
    obtain ⟨dx5, hob5⟩ := R5.ob
    refine ⟨_, rfl, p, dx5, _, rfl, hob5, nT, p, g, t, o, gs, tl, rfl, R5, ?_⟩
    cases tl with
    | rep m => exact absurd ⟨m, rfl⟩ hrep
    | fin =>
      have hn : n = gs.length + 1 := hT
      refine ⟨t, _, _, .str "end", rfl, rfl, SqT.of R5.ht, atI_nat (j := 0) rfl, rfl, _, rfl, iteFb rfl ?_⟩
      refine ⟨_, rfl, k _ H5 (hB.congr fun r => ?_) S05⟩
      constructor
      · rintro ⟨⟨i, j, z1, z2, z3⟩, z4⟩
        exact ⟨⟨i, j, z1, fun _ => by omega, z3⟩, z4⟩
      · rintro ⟨⟨i, j, z1, z2, z3⟩, z4⟩
        exact ⟨⟨i, j, z1, by have := z2 rfl; omega, z3⟩, z4⟩
    | times b =>
      refine ⟨t, _, _, .str "times", rfl, rfl, SqT.of R5.ht, atI_nat (j := 0) rfl, rfl, _, rfl, iteTb wTT ?_⟩
      have hT : Bey gs b (preS gs) n := hT
      refine ⟨_, rfl, _, rfl, _, rfl, _, rfl, q, _, rfl, .inl (SqL.of hq5), p, g, t, o, gs, b, lim, n, fl.length, ?_, R5, hl0, hl1, hT, hB, fun n2 H6 hN S6 => ?_⟩
      · rw [List.length_map, offL_len]
        rfl
      · refine ⟨_, _, rfl, rfl, ?_⟩
        have := k n2 H6 hN (S05.trans S6)
        rw [show (n2 : Int) = (fl.length : Int) + ((n2 : Int) - (fl.length : Int)) by omega] at this
        exact this
end
end RS
namespace RS
open PySem L2
theorem op_neDK {X : Cx} (K : PySem.W.Frag) (hK : X.K = K) (hu : X.A.units + 64 < cLine) : OpR X (compareOp .NotEq) (rNeD K) := by
  subst hK
  exact op_neD hu
def shD2 (ps qs : List Pr) : PyData := .tuple [.list (winD ps), .list (winD qs)]
theorem shD2_shaped (ps qs : List Pr) : SeqAt.shaped (shD2 ps qs) = true := by
  have h1 := win_can ps
  have h2 := win_depth ps
  have h3 := win_can qs
  have h4 := win_depth qs
  show ((PyData.canLayAll0 (winD ps) && (PyData.canLayAll0 (winD qs) && true)) && decide (max (PyData.depthAll (winD ps) + 1) (max (PyData.depthAll (winD qs) + 1) 0) + 1 ≤ 64)) = true
  rw [h1, h3, decide_eq_true (by omega)]
  rfl
theorem shD2_eqv (ps qs ps' qs' : List Pr) : PyData.eqv (shD2 ps qs) (shD2 ps' qs') = decide (ps = ps' ∧ qs = qs') := by
  show (PyData.eqvAll (winD ps) (winD ps') && (PyData.eqvAll (winD qs) (winD qs') && true)) = _
  rw [win_eqv, win_eqv]
  by_cases h1 : ps = ps' <;> by_cases h2 : qs = qs' <;> simp [h1, h2]
theorem sh_dp2 {K : PySem.W.Frag} {H : Hp} {q w1 w2 : Addr} {us vs : List Addr} {ps qs : List Pr} (hq : H q = some (.tup [.ref w1, .ref w2])) (h1 : H w1 = some (.lst (us.map V.ref))) (h2 : H w2 = some (.lst (vs.map V.ref))) (t : TupsI H us ps) (t2 : TupsI H vs qs) : Dp K H (.ref q) (shD2 ps qs) :=
  .tup (SqT.of hq) (.cons (.lst (SqL.of h1) (tupsI_dp t)) (.cons (.lst (SqL.of h2) (tupsI_dp t2)) .nil))
end RS
/-! ### own errors with one field, over ArithmeticError -/
namespace ErX
open PySem PySem.W PySem.Calls PyProof.Rows PySem.HandSPX
def iA (fl : Str) (p1 p2 : Pos) : Arguments := { posonlyargs := [], args := [{ arg := "self", annotation := none, pos := p1 }, { arg := fl, annotation := none, pos := p2 }], vararg := none, kwonlyargs := [], kw_defaults := [], kwarg := none, defaults := [] }
def iB (fl : Str) (q1 q2 q3 q4 : Pos) : List Stmt := [.Assign [.Attribute (.Name "self" q1) fl q2] (.Name fl q3) q4]
def iS (fl : Str) : Scope := { kind := .function, names := [(PySem.Str.ofString "self", .local), (fl, .local)], isGenerator := false, isCoroutine := false, more := [] }
/-- what the written part says of the class cn, at C, of its field fl and of its __init__, at fI -/
structure ErTxt (K : Frag) (mg : Str → Option Value) (cn qn fl : Str) (C fI : Addr) : Prop where
  gC : mg cn = some (.ref C)
  cls : ∃ nm q N bs bm sn sub ab col dd k0 k1 k2 k3 k5, K.lookup C = some (excClassObj nm q C N bs bm true sn sub ab col dd k0 k1 k2 k3 k5 "ArithmeticError.__new__") ∧ (∀ X : String, bm.contains (.type X) = [Value.type "ArithmeticError", .type "Exception", .type "BaseException", .type "object"].contains (.type X))
  sa : findIn K (.ref C) "__setattr__" = some (some (.builtin "object.__setattr__"))
  ga : findIn K (.ref C) "__getattribute__" = some (some (.builtin "BaseException.__getattribute__"))
  gg : findIn K (.ref C) "__getattr__" = some none
  noN : findIn K (.ref C) fl = some none
  ov : excOver K C [Value.type "ArithmeticError", .type "Exception", .type "BaseException", .type "object"] = true
  tN : takerIn K C fl = some none
  iC : findIn K (.ref C) "__init__" = some (some (.ref fI))
  tC : typeIn K (.ref fI) = some (.type "function")
  kC : keepIn K (.ref C) = true
  exC : subIn K (.ref C) (.type "BaseException") = some true
  tyC : typeIn K (.ref C) = some (.type "type")
  hdC : hasDictIn K C = true
  fn : ∃ (oc : Value) (od : Option Addr) (doc pm : Value) (an : Option Addr) (cdv ct : Value) (osl : Array (Option Value)) (p1 p2 q1 q2 q3 q4 : Pos),
    K.lookup fI = some ⟨oc, od, .func (fnOf "__init__" qn (iA fl p1 p2) (iB fl q1 q2 q3 q4) (iS fl) .none .none doc pm an cdv ct), osl⟩ ∧ codeIn K cdv qn = true
  ne : (fl == ("self" : Str)) = false
  bd : ∀ (doc pm cdv ct a v : Value) (an : Option Addr) (p1 p2 q1 q2 q3 q4 : Pos), PySem.bindArgs (fnOf "__init__" qn (iA fl p1 p2) (iB fl q1 q2 q3 q4) (iS fl) .none .none doc pm an cdv ct) { pos := [a, v] } = pure [(("self" : Str), a), (fl, v)]
  nc : (cn == ("__debug__" : Str)) = false
  nd : (fl == ("__debug__" : Str)) = false
  al : ∀ a v : Value, ([(("self" : Str), a), (fl, v)].all fun y => List.lookup y.fst (iS fl).names == some NameKind.local || List.lookup y.fst (iS fl).names == some NameKind.cell) = true
  bs : ∀ (L a : Addr) (cd x v : Value), bindL (envOfC qn (iS fl) L a cd).kindOf [(("self" : Str), x), (fl, v)] (fun _ => none) "self" = some x
  bv : ∀ (L a : Addr) (cd x v : Value), bindL (envOfC qn (iS fl) L a cd).kindOf [(("self" : Str), x), (fl, v)] (fun _ => none) fl = some v
section
open Builtin Builtin.ObjectAttr
variable {prog : Program} {w : World} {A : Around} {R : Result → Shared → Prop} {hp : Heap} {g : Array GenState} {d : Drawn} {t : Nat} {os : OsState} {K : Frag} {name : Str} {tk : Tok} {v : Value} {x C dx : Addr} {fv : Array Value} {cd : ClassData}
/-- the first field of an error -/
theorem ar_osa (X : K.In hp) (hx : hp.get? x = some { cls := .ref C, data := .fields fv }) (ov : excOver K C [Value.type "ArithmeticError", .type "Exception", .type "BaseException", .type "object"] = true) (ht : takerIn K C name = some none) (hcd : clsIn K C = some cd) (hh : cd.hasDict = true)
    (hq : ∀ h' tk' dx, (∀ b o, b ≠ x → hp.get? b = some o → h'.get? b = some o) ∧ hp.objs.size ≤ dx ∧ dx ≠ x ∧ h'.get? x = some { cls := .ref C, dict := some dx, data := .fields fv } ∧ h'.Ns1 dx (fun y => if y = name then some v else none) →
      R (.ok (.ret .none)) ⟨h', g, d, tk', os⟩) :
    codeAny (model prog w) A (.call (.builtin "object.__setattr__") ⟨[.ref x, .str name tk, v], []⟩) R ⟨hp, g, d, t, os⟩ := by
  have J : InstAt hp x { cls := .ref C, data := .fields fv } C none := ⟨hx, rfl, rfl, trivial⟩
  refine osa_openX PySem.F.store_ArithmeticError X J ov ht fun b => ?_
  have hxs : x ≠ hp.objs.size := Nat.ne_of_lt (Heap.lt_size hx)
  have lc : Looks (model prog w) hp (classData C) cd := looks_clsIn X hcd
  obtain ⟨nm, bs, mro, ns, qn, hd, sn, sb, ab, col, del⟩ := cd
  obtain rfl : hd = true := hh
  dsimp only
  unfold storeInOwnDict ownDictForStores
  repeat first
    | with_reducible refine store_in_new ?_ ?_
    | with_reducible refine wpAny_loadPart_at hx ?_
    | with_reducible refine lc.at ?_
    | wp_step
  · have en : (hp.push { cls := Value.type "dict", data := Data.dict #[] }).Ns hp.objs.size fun _ => none := Heap.Ns.new hp (Value.type "dict")
    exact en.at fun o e => by
      rw [Heap.get?_update_ne _ _ _ _ hxs.symm]
      exact e
  · intro h' tk' hn' hs
    have up : ∀ b o, hp.get? b = some o → (hp.push { cls := Value.type "dict", data := Data.dict #[] }).get? b = some o := fun b o e => Heap.get?_push_of_some _ e
    refine hq h' tk' hp.objs.size ⟨fun b o hb ho => ?_, Nat.le_refl _, hxs.symm, ?_, hn'⟩
    · have lt : b ≠ hp.objs.size := Nat.ne_of_lt (Heap.lt_size ho)
      rw [hs.2 b lt, Heap.get?_update_ne _ _ _ _ hb]
      exact up b o ho
    · rw [hs.2 x hxs]
      exact Heap.get?_update_self _ (up x _ hx) rfl
/-- a further field -/
theorem ar_osa2 {m0 : Str → Option Value} {nl : List Str} (X : K.In hp) (hx : hp.get? x = some { cls := .ref C, dict := some dx, data := .fields fv }) (hns : hp.Ns1 dx m0) (hw : Within m0 nl) (hz : nl.length ≤ 1000) (ov : excOver K C [Value.type "ArithmeticError", .type "Exception", .type "BaseException", .type "object"] = true)
    (ht : takerIn K C name = some none) (hcd : clsIn K C = some cd) (hh : cd.hasDict = true)
    (hq : ∀ h' tk', (∀ b o, b ≠ dx → hp.get? b = some o → h'.get? b = some o) ∧ h'.Ns1 dx (fun y => if y = name then some v else m0 y) → R (.ok (.ret .none)) ⟨h', g, d, tk', os⟩) :
    codeAny (model prog w) A (.call (.builtin "object.__setattr__") ⟨[.ref x, .str name tk, v], []⟩) R ⟨hp, g, d, t, os⟩ := by
  obtain ⟨oD, esD, epD, hoD, hdD, _⟩ := hns.count hw
  have J : InstAt hp x { cls := .ref C, dict := some dx, data := .fields fv } C (some oD) := ⟨hx, rfl, rfl, hoD⟩
  refine osa_openX PySem.F.store_ArithmeticError X J ov ht fun b => ?_
  have lc : Looks (model prog w) hp (classData C) cd := looks_clsIn X hcd
  obtain ⟨nm, bs, mro, ns, qn, hd, sn, sb, ab, col, del⟩ := cd
  obtain rfl : hd = true := hh
  dsimp only
  unfold storeInOwnDict ownDictForStores
  repeat first
    | with_reducible refine PySem.OEX.store_in_old hns hw hz ?_
    | with_reducible refine wpAny_loadPart_at hx ?_
    | with_reducible refine lc.at ?_
    | wp_step
  intro h' tk' hn' hs
  refine hq h' tk' ⟨fun b o hb ho => ?_, hn'⟩
  rw [hs.2 b hb]
  exact ho
end
theorem one_size (v : Value) : [v].length ≤ sizeLine := by
  rw [sizeLine_eq]
  exact (by decide : 1 ≤ 16777216)
theorem ldC {M : Model} {s : Shared} {name : Str} {scope : Scope} {L a : Addr} {cd : Value} {m : Str → Option Value} {x : Str} {pos : Pos} {v : Value} {Q : Value → Shared → Prop} {A : Around} {E : Value → Shared → Prop} (hn : s.heap.Ns L m) (hv : m x = some v) (h : Q v s)
    (hk : scope.kind = .function := by rfl) (hl : (envOfC name scope L a cd).kindOf x = some .local := by rfl) (hd : (x == ("__debug__" : Str)) = false := by decide) :
    wpAny M A (eval (.Name x pos) (envOfC name scope L a cd)) Q E s := wpAny_Name (wpAny_loadName_local hk hl hn hv h) hd
/-- what __init__ leaves of a fresh exception at x -/
structure InitEnd (fl : Str) (h h' : Heap) (x C dx t1 : Addr) (v : Value) : Prop where
  keep : ∀ b o, b ≠ x → h.get? b = some o → h'.get? b = some o
  obj : h'.get? x = some { cls := .ref C, dict := some dx, data := .fields #[.ref t1, .none, .none, .none, .bool false, .none] }
  dbig : h.objs.size ≤ dx
  dne : dx ≠ x
  ns : h'.Ns1 dx (fun y => if y = fl then some v else none)
/-- a made error -/
structure OwnMade (fl : Str) (h h' : Heap) (e C d : Addr) (v : Value) : Prop where
  keep : ∀ b o, h.get? b = some o → h'.get? b = some o
  new : h.objs.size ≤ e
  obj : ∃ oe vs, h'.get? e = some oe ∧ oe.cls = .ref C ∧ oe.dict = some d ∧ oe.data = .fields vs ∧ vs[1]? = some .none
  dbig : h.objs.size ≤ d
  dne : d ≠ e
  ns : h'.Ns1 d (fun y => if y = fl then some v else none)
section
variable {prog : Program} {w : World} {A : Around} {E : Value → Shared → Prop} {R : Result → Shared → Prop} {s : Shared} {K : Frag} {mg : Str → Option Value} {cn qn fl : Str} {C fI : Addr}
theorem kind_self {name : Str} {L a : Addr} {cd : Value} : (envOfC name (iS fl) L a cd).kindOf "self" = some .local := by
  first | rfl | with_unfolding_all rfl | kernel_rfl
theorem kind_fl (ne : (fl == ("self" : Str)) = false) {name : Str} {L a : Addr} {cd : Value} : (envOfC name (iS fl) L a cd).kindOf fl = some .local := by
  show List.lookup fl [(PySem.Str.ofString "self", NameKind.local), (fl, .local)] = some .local
  have ne' : (fl == PySem.Str.ofString "self") = false := ne
  have sf : (fl == fl) = true := by simp
  simp only [List.lookup, ne', sf]
theorem er_init (T : ErTxt K mg cn qn fl C fI) {x t0 : Addr} {v : Value} (X : K.In s.heap) (hlim : s.heap.NoLimit) (hx : s.heap.get? x = some (excO C t0)) (_hnx : K.lookup x = none) (hroom : A.depth < recursionLimit)
    (hq : ∀ h' tk dx, InitEnd fl s.heap h' x C dx t0 v → R (.ok (.ret .none)) { s with heap := h', toks := tk }) :
    codeAny (model prog w) A (.call (.ref fI) ⟨[.ref x, v], []⟩) R s := by
  obtain ⟨oc, od, doc, pm, an, cdv, ct, osl, p1, p2, q1, q2, q3, q4, ho, hcd⟩ := T.fn
  obtain ⟨nm, q, N, bs, bm, sn, sub, ab, col, dd, k0, k1, k2, k3, k5, hC, hbT⟩ := T.cls
  have hcl : clsIn K C = some { name := nm, bases := bs, mro := .ref C :: bm, ns := N, qualname := q, hasDict := true, slotNames := sn, subclasses := sub, abstract := ab, collection := col, hasDel := false } := by unfold clsIn; rw [hC] <;> rfl
  refine Att.call_fn (binds := [("self", .ref x), (fl, v)]) X hlim ho hcd hroom (BindsTo.of_eq (T.bd _ _ _ _ _ _ _ _ _ _ _ _ _)) (T.al _ _) (fun s₁ IC => ?_) rfl rfl rfl
  obtain ⟨h₁, tk₁, rfl⟩ := IC.toInCall.same
  have k : ∀ b o, s.heap.get? b = some o → h₁.get? b = some o := IC.toInCall.keep
  have hn := IC.toInCall.ns
  have hxL : s.heap.objs.size ≠ x := Nat.ne_of_gt (Heap.lt_size hx)
  have X₁ : K.In h₁ := X.keeps k
  have hx₁ := k _ _ hx
  show wpAny _ _ (execs _ _) _ _ _
  refine wpAny_execs_cons (plainObj_wpAny_Assign_Attribute ?_)
  refine ldC (v := v) hn (T.bv _ _ _ _ _) (ldC (v := .ref x) hn (T.bs _ _ _ _ _) ?_ rfl kind_self) rfl (kind_fl T.ne) T.nd
  refine set_plain X₁ (ox := excO C t0) (od := none) ⟨hx₁, rfl, rfl, trivial⟩ T.sa ?_
  refine ar_osa X₁ hx₁ T.ov T.tN hcl rfl (fun h₃ tk₃ dx ⟨k₃, dn, dne, hx₃, hn₃⟩ => ?_)
  show wpAny _ _ (execs _ _) _ _ _
  have z : s.heap.objs.size < h₁.objs.size := hn.lt
  exact wpAny_execs_nil (hq h₃ tk₃ dx ⟨fun b o hb e => k₃ b o hb (k b o e), hx₃, Nat.le_of_lt (Nat.lt_of_lt_of_le z dn), dne, hn₃⟩)
theorem er_made (T : ErTxt K mg cn qn fl C fI) {v : Value} (X : K.In s.heap) (hlim : s.heap.NoLimit) (hroom : A.depth + 1 < recursionLimit)
    (hq : ∀ h' tk e d, OwnMade fl s.heap h' e C d v → R (.ok (.ret (.ref e))) { s with heap := h', toks := tk }) :
    codeAny (model prog w) A (.call (.ref C) ⟨[v], []⟩) R s := by
  obtain ⟨nm, q, N, bs, bm, sn, sub, ab, col, dd, k0, k1, k2, k3, k5, hC, hbT⟩ := T.cls
  obtain ⟨hp, g, dr, tk, os⟩ := s
  have k : ∀ b o, hp.get? b = some o → ((hp.push (kdv_tup [v])).push (excO C hp.objs.size)).get? b = some o := fun b o e => Heap.get?_push_of_some _ (Heap.get?_push_of_some _ e)
  have hget : ((hp.push (kdv_tup [v])).push (excO C hp.objs.size)).get? (hp.objs.size + 1) = some (excO C hp.objs.size) := by heap_get
  have hnx : K.lookup (hp.objs.size + 1) = none := by
    cases e : K.lookup (hp.objs.size + 1) with
    | none => rfl
    | some o =>
      have z : hp.get? (hp.objs.size + 1) = some o := X _ _ e
      exact absurd (Nat.lt_of_succ_lt (Heap.lt_size z)) (Nat.lt_irrefl _)
  refine call_own F.excBase_ArithmeticError hbT (X _ _ hC) (looks_findIn X T.iC) (fun self => bind_fn X self T.tC) (one_size v) ?_
  refine er_init (s := ⟨(hp.push (kdv_tup [v])).push (excO C hp.objs.size), g, dr, tk, os⟩) T (X.keeps k) (hlim.keeps k) hget hnx ?_ fun h' tk' dx ⟨k', hx, dn, dne, hns⟩ => ?_
  · show A.depth + 1 < recursionLimit
    exact hroom
  · have old : ∀ b o, hp.get? b = some o → h'.get? b = some o := fun b o e => k' b o (Nat.ne_of_lt (Nat.lt_succ_of_lt (Heap.lt_size e))) (k b o e)
    have z : hp.objs.size + 1 + 1 ≤ dx := by
      first
        | (simpa only [Heap.size_push] using dn)
        | exact dn
        | (have q := dn; rw [Heap.size_push, Heap.size_push] at q; exact q)
    exact ⟨rfl, hq h' tk' (hp.objs.size + 1) dx ⟨old, Nat.le_succ _, ⟨_, _, hx, rfl, rfl, rfl, rfl⟩, Nat.le_trans (Nat.le_trans (Nat.le_succ _) (Nat.le_succ _)) z, dne, hns⟩⟩
end
end ErX
namespace L2
open PySem PySem.Spec PyProof.Rows
theorem relO_er {v : V} {v' : Value} (fl : Str) (r : RelV v v') (f : Str) : RelO (List.lookup f [(fl, v)]) (if f = fl then some v' else none) := by
  by_cases hw : f = fl
  · subst hw
    rw [if_pos rfl]
    have q : List.lookup f [(f, v)] = some v := by simp [List.lookup]
    rw [q]
    exact r
  · rw [if_neg hw]
    have qw : (f == fl) = false := by simpa using hw
    have q2 : List.lookup f [(fl, v)] = none := by simp [List.lookup, qw]
    rw [q2]
    trivial
section
variable {X : Cx} {cn qn fl : Str} {C fI : Addr}
/-- cn(e) -/
def tMkEr (fl : Str) (C : Addr) (ta : TA) : St → Hp → XK → Prop := fun σ H Q => ta σ H fun vs H1 => ∃ v, vs = [v] ∧ ∀ d, H1 d = none → Q (.ref C) (some d) (upd H1 d (.xd [(fl, v)]))
theorem pmk_er {a : Expr} {ta : TA} {p pos : Pos} {k : Nat} (T : ErX.ErTxt X.K X.mg cn qn fl C fI) (hr : Room k X.A) (ha : PA X [a] ta) (hg : Gl X cn := by rfl)
    (he : starEach (a :: []) X.env = (false, eval a X.env) :: starEach [] X.env := by rfl) (hpl : (backTo pos (starEach [] X.env)).any (·.1) = false := by rfl) :
    PMk X (.Call (.Name cn p) [a] [] pos) (tMkEr fl C ta) := by
  intro pins s σ H Q I h
  refine wpAny_Call_Name_kw (ld_glob I hg T.gC ?_ T.nc)
  refine PySem.W.callWith_K (h₀ := X.base) I.ok.mod.kin T.kC (thn (ha.run pos pins s σ H _ I h) fun us s1 hh => ?_) he hpl
  obtain ⟨vs, H1, I1, r1, v, ev, q1⟩ := hh
  subst ev
  refine ⟨I1.kIn, ?_⟩
  cases r1 with
  | cons rv rn =>
    rename_i v' us'
    cases rn
    show wpAny _ _ (call (.ref C) [v']) _ _ _
    have hlim := I1.nolimit
    obtain ⟨hp, g, dr, tk, os⟩ := s1
    refine wpAny_call (ErX.er_made T I1.kIn hlim (by have := hr.dp; omega) fun h' tk' e d M => ?_)
    show MkP X pins σ Q (.ref e) ⟨h', g, dr, tk', os⟩
    obtain ⟨oe, fv, hoe, hc, hd, hdat, h1⟩ := M.obj
    have hns := M.ns
    obtain ⟨G', g1, g2⟩ := restrict h' fun b => decide (b ≠ e)
    have gk : ∀ b, b ≠ e → G'.get? b = h'.get? b := fun b hb => g1 b (decide_eq_true hb)
    have ge : G'.get? e = none := g2 e (by simp)
    have old : ∀ b o, hp.get? b = some o → G'.get? b = some o := fun b o q => (gk b (Nat.ne_of_lt (Nat.lt_of_lt_of_le (Heap.lt_size q) M.new))).trans (M.keep b o q)
    have ob : ObjOk X.prog X.w (upd H1 d (.xd [(fl, v)])) G' d (.xd [(fl, v)]) :=
      ⟨_, hns.at (fun o q => (gk d M.dne).trans q), fun f => relO_er fl rv f⟩
    have J : Inv X pins σ (upd H1 d (.xd [(fl, v)])) ⟨G', g, dr, tk', os⟩ := I1.laid (t' := tk') old M.dbig ob
    refine ⟨e, oe, fv, ⟨G', g, dr, tk', os⟩, _, .ref C, some d, rfl, J, fun b o q => ?_, ge, hoe, ⟨hc, hd⟩, hdat, h1, ?_, rfl, I1.bare, raises_own T.exC T.tyC, q1 d (I1.hok.fresh M.dbig)⟩
    · by_cases hb : b = e
      · have q' : G'.get? b = some o := q
        rw [hb, ge] at q'; cases q'
      · exact (gk b hb).symm.trans q
    · rw [upd_ne (Ne.symm M.dne)]
      exact I1.hok.fresh M.new
/-- raise cn(e) -/
def tRaiseEr (fl : Str) (C : Addr) (W : WX) (ta : TA) : TS := fun _ σ H => tMkEr fl C ta σ H fun cls d H' => W cls d σ H'
theorem ps_raiseEr {a : Expr} {ta : TA} {W : WX} {p pos pos2 : Pos} {k : Nat} (hc : X.calm = true) (T : ErX.ErTxt X.K X.mg cn qn fl C fI) (hr : Room k X.A) (tk : Takes X W) (ha : PA X [a] ta) (hg : Gl X cn := by rfl)
    (he : starEach (a :: []) X.env = (false, eval a X.env) :: starEach [] X.env := by rfl) (hpl : (backTo pos (starEach [] X.env)).any (·.1) = false := by rfl) :
    PS X (.Raise (some (.Call (.Name cn p) [a] [] pos)) none pos2) (tRaiseEr fl C W ta) := ps_raise hc tk (pmk_er T hr ha hg he hpl)
/-- e.fl, e the exception that the suite holds (at a; its class cls, its dict d) -/
def tByEr (fl : Str) (C : Addr) (a : Addr) (cls : Value) (d : Option Addr) (te : TE) : TE := fun σ H Q => te σ H fun x H1 => x = .ref a ∧ cls = .ref C ∧ ∃ (dd : Addr) (v : V), d = some dd ∧ H1 dd = some (.xd [(fl, v)]) ∧ Q v H1
theorem pe_byEr {a : Addr} {oe : Obj} {cls : Value} {d : Option Addr} {pn : List (Addr × Obj)} {e : Expr} {te : TE} {pos : Pos} (T : ErX.ErTxt X.K X.mg cn qn fl C fI) (hz : Zc cls d oe) (hf : ∃ vs, oe.data = .fields vs) (he : PE (X.suite a ((a, oe) :: pn)) e te)
    (hb : attributeBase e fl X.env (eval e X.env) = eval e X.env := by rfl) :
    PE (X.suite a ((a, oe) :: pn)) (.Attribute e fl pos) (tByEr fl C a cls d te) := by
  refine ⟨fun pins s σ H Q I h => ?_⟩
  refine attr_of hb (thn (he.run pins s σ H _ I h) fun u s1 hh => ?_)
  obtain ⟨x, H1, I1, rx, ex, ec, dd, v, ed, ea, q⟩ := hh
  subst ex
  obtain rfl : u = Value.ref a := rx
  subst ec
  subst ed
  obtain ⟨ha, _⟩ := I1.pin (a, oe) (List.mem_append_left _ List.mem_cons_self)
  obtain ⟨vs, hd⟩ := hf
  have hx : ObjOk X.prog X.w H1 s1.heap dd (.xd [(fl, v)]) := I1.hok dd _ ea
  obtain ⟨mA, hns, hr⟩ := hx
  obtain ⟨od, ho, hl⟩ := lookIn_ns hns
  have l : List.lookup fl [(fl, v)] = some v := by simp [List.lookup]
  obtain ⟨u, hu, ru⟩ := RelO.some_of (v := v) (o := mA fl) (by rw [← l]; exact hr fl)
  have J : PySem.W.InstAt s1.heap a oe C (some od) := ⟨ha, hz.1, by unfold PySem.W.notCls; rw [hd] <;> rfl, by rw [hz.2]; exact ho⟩
  exact HandSPX.exc_get I1.kIn J T.ga T.gg T.exC (PySem.W.findObj_own T.hdC T.noN rfl (by rw [hl, hu])) (handed_of ru) ⟨v, H1, I1.tok _, ru, q⟩
end
end L2
/-! ### the caught error in the suite: isinstance, its fields -/
namespace L2
open PySem PySem.Spec PyProof.Rows
/-- D is an error's class whose instances are asked plainly -/
structure ErCls (K : PySem.W.Frag) (D : Addr) : Prop where
  cl : (PySem.W.clsIn K D).isSome = true
  ga : PySem.W.findIn K (.ref D) "__getattribute__" = some (some (.builtin "BaseException.__getattribute__"))
  gg : PySem.W.findIn K (.ref D) "__getattr__" = some none
  sb : PySem.W.subIn K (.ref D) (.type "BaseException") = some true
  hd : PySem.W.hasDictIn K D = true
  ca : PySem.W.findIn K (.ref D) "__class__" = some (some (.builtin "object.__class__"))
  cn : PySem.W.specialIn K (.builtin "object.__class__") "__get__" = some (some (.builtin "getset_descriptor.__get__"))
  ct : PySem.W.takesIn K (.builtin "object.__class__") = some true
  cm : PySem.W.mroIn K D (.type "object") = some true
/-- the error held at a is of the class D, its fields stand in the dict at dd -/
structure Held (H : Hp) (cls : Value) (d : Option Addr) (D dd : Addr) (fs : List (Str × V)) : Prop where
  ec : cls = .ref D
  ed : d = some dd
  ho : H dd = some (.xd fs)
section
variable {X : Cx} {a : Addr} {oe : Obj} {cls : Value} {d : Option Addr} {pn : List (Addr × Obj)}
theorem held_at {pins : List (Addr × Obj)} {σ : St} {H : Hp} {s : Shared} {D dd : Addr} {fs : List (Str × V)} (hz : Zc cls d oe) (hf : ∃ vs, oe.data = .fields vs) (I : Inv (X.suite a ((a, oe) :: pn)) pins σ H s) (h : Held H cls d D dd fs) :
    ∃ od, PySem.W.InstAt s.heap a oe D (some od) ∧ ∀ fl : Str, ∃ o, PySem.W.lookIn fl od = some o ∧ RelO (fs.lookup fl) o := by
  obtain ⟨ec, ed, ho⟩ := h
  obtain ⟨ha, _⟩ := I.pin (a, oe) (List.mem_append_left _ List.mem_cons_self)
  obtain ⟨vs, hd⟩ := hf
  obtain ⟨mA, hns, hr⟩ := (show ObjOk X.prog X.w H s.heap dd (.xd fs) from I.hok dd _ ho)
  obtain ⟨od, hod, hl⟩ := lookIn_ns hns
  refine ⟨od, ⟨ha, by rw [hz.1, ec], by unfold PySem.W.notCls; rw [hd] <;> rfl, by rw [hz.2, ed]; exact hod⟩, fun fl => ⟨mA fl, ?_, hr fl⟩⟩
  rw [hl]
/-- isinstance(e, c) -/
def rIsEr (K : PySem.W.Frag) (a : Addr) (cls : Value) (d : Option Addr) : List V → Hp → VK → Prop := fun xs H Q =>
  ∃ (D dd : Addr) (fs : List (Str × V)) (c : V) (cv : Value) (b : Bool), Held H cls d D dd fs ∧ ErCls K D ∧ xs = [.ref a, c] ∧ (∀ u, RelV c u → u = cv) ∧ PySem.W.kitOne K (.ref D) cv = some b ∧ Q (.bl b) H
theorem call_isEr (hz : Zc cls d oe) (hf : ∃ vs, oe.data = .fields vs) : CallR (X.suite a ((a, oe) :: pn)) (.builtin "isinstance") (rIsEr X.K a cls d) := by
  rintro pins s σ H xs us Q I r ⟨D, dd, fs, c, cv, b, hh, C, rfl, hcv, e, q⟩
  obtain ⟨od, J, _⟩ := held_at hz hf I hh
  match us, r with
  | [u1, u2], .cons r1 (.cons r2 .nil) =>
    obtain rfl : u1 = Value.ref a := r1
    obtain rfl := hcv _ r2
    refine PySem.W.kia_one (PySem.W.kitx_exc C.cl C.ga C.gg C.sb C.ca C.cn C.ct C.cm) I.kIn J e (by intro z; cases z) fun tk => ?_
    exact ⟨.bl b, H, I.kept (t' := tk) fun _ _ z => z, rfl, q⟩
/-- e.fl -/
def tByX (K : PySem.W.Frag) (fl : Str) (a : Addr) (cls : Value) (d : Option Addr) (te : TE) : TE := fun σ H Q => te σ H fun x H1 =>
  ∃ (D dd : Addr) (fs : List (Str × V)) (v : V), x = .ref a ∧ Held H1 cls d D dd fs ∧ ErCls K D ∧ PySem.W.findIn K (.ref D) fl = some none ∧ fs.lookup fl = some v ∧ Q v H1
theorem pe_byX {fl : Str} {e : Expr} {te : TE} {pos : Pos} (hz : Zc cls d oe) (hf : ∃ vs, oe.data = .fields vs) (he : PE (X.suite a ((a, oe) :: pn)) e te)
    (hb : attributeBase e fl X.env (eval e X.env) = eval e X.env := by rfl) :
    PE (X.suite a ((a, oe) :: pn)) (.Attribute e fl pos) (tByX X.K fl a cls d te) := by
  refine ⟨fun pins s σ H Q I h => attr_of hb (thn (he.run pins s σ H _ I h) fun u s1 hh => ?_)⟩
  obtain ⟨x, H1, I1, rx, D, dd, fs, v, rfl, hd, C, no, hv, q⟩ := hh
  obtain rfl : u = Value.ref a := rx
  obtain ⟨od, J, hl⟩ := held_at hz hf I1 hd
  obtain ⟨o, ho, hr⟩ := hl fl
  obtain ⟨u, rfl, ru⟩ := RelO.some_of (v := v) (o := o) (by rw [← hv]; exact hr)
  exact HandSPX.exc_get I1.kIn J C.ga C.gg C.sb (PySem.W.findObj_own C.hd no rfl ho) (handed_of ru) ⟨v, H1, I1.tok _, ru, q⟩
end
end L2
/-! ### isinstance and clauses by the classes' own facts -/
namespace L2
open PySem PySem.Spec PyProof.Rows
section
variable {K : PySem.W.Frag} {C D : Addr} {b : Bool}
theorem kit_cls_of (hc : (PySem.W.clsIn K D).isSome = true) (ht : PySem.W.typeIn K (.ref D) = some (.type "type")) (hs : PySem.W.subIn K (.ref C) (.ref D) = some b) : PySem.W.kitCls K (.ref C) (.ref D) = some b := by
  show (if ((PySem.W.clsIn K D).isSome && PySem.W.typeIn K (.ref D) == some (.type "type")) = true then PySem.W.subIn K (.ref C) (.ref D) else none) = some b
  rw [hc, ht, if_pos (by rfl)]
  exact hs
theorem kit_own (hc : (PySem.W.clsIn K D).isSome = true) (ht : PySem.W.typeIn K (.ref D) = some (.type "type")) (hs : PySem.W.subIn K (.ref C) (.ref D) = some b) (hn : C ≠ D) : PySem.W.kitOne K (.ref C) (.ref D) = some b := by
  have e : (Value.ref C == Value.ref D) = false := Bool.eq_false_iff.mpr fun z => hn (Value.ref.inj (beq_iff_eq.mp z))
  unfold PySem.W.kitOne
  rw [if_neg (by rw [e]; decide)]
  exact kit_cls_of hc ht hs
theorem kit_self : PySem.W.kitOne K (.ref C) (.ref C) = some true := if_pos (beq_self_eq_true _)
theorem kit_bltn {T : String} (hm : PySem.W.kitMeta T = true) (hs : PySem.W.subIn K (.ref C) (.type T) = some b) : PySem.W.kitOne K (.ref C) (.type T) = some b := by
  have e : (Value.ref C == Value.type T) = false := Bool.eq_false_iff.mpr fun z => by cases (beq_iff_eq.mp z)
  unfold PySem.W.kitOne
  rw [if_neg (by rw [e]; decide)]
  show (if PySem.W.kitMeta T = true then PySem.W.subIn K (.ref C) (.type T) else none) = some b
  rw [if_pos hm]
  exact hs
theorem exm_own (h1 : PySem.W.subIn K (.ref D) (.type "BaseException") = some true) (hc : (PySem.W.clsIn K D).isSome = true) (ht : PySem.W.typeIn K (.ref D) = some (.type "type")) (hs : PySem.W.subIn K (.ref C) (.ref D) = some b) : PySem.W.exmOne K (.ref C) (.ref D) = some b := by
  unfold PySem.W.exmOne
  rw [h1, if_pos (by rfl)]
  exact kit_cls_of hc ht hs
end
end L2
namespace LamX
open PySem PySem.Spec PyProof.Rows L2
section
variable {X : Cx}
theorem takes_len {X : Cx} {W : WX} (t : Takes X W) : Takes X (fun cls d σ H => σ.length = X.N.length → W cls d σ H) := by
  rintro u s' ⟨a, B, sI, pins, σ, H, cls, d, e, I, nb, up, sky, na, os, ag, w⟩
  exact t u s' ⟨a, B, sI, pins, σ, H, cls, d, e, I, nb, up, sky, na, os, ag, w I.len⟩
/-- told: try: a() / except e as n: suite / rest -/
def TSaid (K : PySem.W.Frag) (CS : Addr) (i : Nat) (Ng : List Str) (ts : Addr → Value → Option Addr → TS) (tr : TS) : (XK → Hp → VK → Prop) → Hp → VK → Prop := fun tl H Q => ∀ f : Addr,
  tl (fun cls d H' => ∃ b, PySem.W.exmOne K cls (.ref CS) = some b ∧ (b = true → ∀ (a : Addr) (σ : L2.St), H' a = none → σ.length = Ng.length →
      ts a cls d { nx := fun σ' H2 => tr { nx := fun _ H3 => Q .non H3, rt := Q } (σ'.set i none) H2, rt := Q } (σ.set i (some (.ref a))) H') ∧ (b = false → False)) H
    (fun _ H' => tr { nx := fun _ H3 => Q .non H3, rt := Q } (L2.start Ng [.ref f]) H')
theorem said_gives {Ng : List Str} {x a e n q : Str} {sg : Scope} {g CS : Addr} {cdg : Value} {i : Nat} {p1 p2 p3 p4 p5 p6 : Pos} {b₀ : Stmt} {suite rest : List Stmt} {ts : Addr → Value → Option Addr → TS} {tr : TS}
    (hge : sg.names.lookup e = some .globalImplicit) (hme : X.mg e = some (.ref CS)) (hde : (e == ("__debug__" : Str)) = false) (hN : Ng.Nodup) (hi : Ng[i]? = some n) (hln : sg.names.lookup n = some .local) (h0 : ∀ f : Addr, (L2.start Ng [V.ref f])[0]? = some (some (V.ref f)))
    (hsu : ∀ (s : Shared) (H : Hp) (a : Addr) (oe : Obj) (cls : Value) (d : Option Addr) (pn : List (Addr × Obj)), Zc cls d oe → (∃ vs, oe.data = .fields vs) →
      PSs ((cxOf C8.CX0 X.prog X.w X.K X.mg X.base Ng x sg g cdg X.A X.stack s H C8.E0).nox.suite a ((a, oe) :: pn)) (b₀ :: suite) (ts a cls d))
    (hre : ∀ (s : Shared) (H : Hp), PSs (cxOf C8.CX0 X.prog X.w X.K X.mg X.base Ng x sg g cdg X.A X.stack s H C8.E0).nox rest tr)
    (hsw : ∀ (s : Shared) (H : Hp) (pn : List (Addr × Obj)) (xe : Value → Shared → Prop), swapsWith (.Call (.Name a p1) [] [] p2) none p3.line ((cxOf C8.CX0 X.prog X.w X.K X.mg X.base Ng x sg g cdg X.A X.stack s H C8.E0).nox.tr pn xe).env = pure false := by intros; rfl) :
    GivesTo X Ng x sg g cdg (.Try [.Expr (.Call (.Name a p1) [] [] p2) p3] [.ExceptHandler (some (.Name e p4)) (some n) (b₀ :: suite) p5] [] [] p6 :: rest) a q (TSaid X.K CS i Ng ts tr) := by
  intro f c' s H Q tl act hc h
  have hgl : Gl (cxOf C8.CX0 X.prog X.w X.K X.mg X.base Ng x sg g cdg X.A X.stack s H C8.E0).nox e := hge
  refine ⟨_, pss_cons (ps_try_as (X := (cxOf C8.CX0 X.prog X.w X.K X.mg X.base Ng x sg g cdg X.A X.stack s H C8.E0).nox) (c := .ref CS) (i := i)
      (tb := fun W D σ H => ∃ Ech : XK, (∀ cls d (σ' : L2.St) H', Ech cls d H' → σ'.length = Ng.length → W cls d σ' H') ∧ σ[0]? = some (some (.ref f)) ∧ H c' = some (CodeO c' q) ∧ tl Ech H (fun _ H' => D.nx σ H'))
      rfl rfl hN hi hln ⟨hgl, hde, .inl hme⟩ LamX.takes0 (fun W pn xe tk _ => ?_) (fun a oe cls d pn hz hf => hsu s H a oe cls d pn hz hf)) (hre s H), ?_⟩
  · refine ⟨fun pins s' σ H' D I h' => ?_⟩
    obtain ⟨Ech, hW, h1, h2, h3⟩ := h'
    have hp := act _ pn xe Ech p1 p2 (takes_len tk) (fun cls d σ' H' z hl => hW cls d σ' H' z hl)
    have hq := pss_one (ps_expr (pos := p3) hp (hsw s H pn xe))
    exact hq.run pins s' σ H' D I ⟨h1, h2, h3⟩
  · exact ⟨fun cls d H' => ∃ b, PySem.W.exmOne X.K cls (.ref CS) = some b ∧ (b = true → ∀ (a : Addr) (σ : L2.St), H' a = none → σ.length = Ng.length →
      ts a cls d { nx := fun σ' H2 => tr { nx := fun _ H3 => Q .non H3, rt := Q } (σ'.set i none) H2, rt := Q } (σ.set i (some (.ref a))) H') ∧ (b = false → False), fun cls d σ' H' ⟨b, e1, e2, e3⟩ hl => ⟨b, e1, fun hb a ha => e2 hb a σ' ha hl, fun hb => e3 hb⟩, h0 f, hc, h f⟩
end
end LamX
namespace L2
open PySem PySem.Spec PyProof.Rows
theorem exm_any2 {K : PySem.W.Frag} {c x y : Value} {b1 b2 : Bool} (h1 : PySem.W.exmOne K c x = some b1) (h2 : PySem.W.exmOne K c y = some b2) : PySem.W.exmAny K c [x, y] = some (b1 || (b2 || false)) := by
  have e : PySem.W.exmAny K c [y] = some (b2 || false) := by
    show (match PySem.W.exmOne K c y, PySem.W.exmAny K c [] with | some b, some d => some (b || d) | _, _ => none) = _
    rw [h2] <;> rfl
  show (match PySem.W.exmOne K c x, PySem.W.exmAny K c [y] with | some b, some d => some (b || d) | _, _ => none) = _
  rw [h1, e] <;> rfl
end L2
namespace RS
open PySem L2
/-! ### what is no integer, and the defs of a rule that raise -/
/-- a value whose type is known and is no int -/
def OddV (K : PySem.W.Frag) (H : Hp) (x : V) : Prop := ∃ tn : String, TyX K H x (.type tn) ∧ (tn = "bool" ∨ kitB tn "int" = some false)
section
variable {P : Program} {w : World} {K : PySem.W.Frag} {mg : Str → Option Value} {base : Heap}
def spIsAny (K : PySem.W.Frag) : Sp := fun vs H Q _ => ∃ x, vs = [x] ∧ ((∃ i, x = .int i ∧ Q (.bl true) H) ∨ (OddV K H x ∧ Q (.bl false) H))
theorem ok_isAny {f C : Addr} {fd : FuncData} (F : Fun K "is_integer" "is_integer" s_is_integer f fd) (T : Txt K mg C) : FnOk P w K mg base CX0 1 f fd ["value"] (spIsAny K) := by
  refine F.ok scIsInt (fun vs H Q E h => ?_) (fun cdv A outer s H vs Q E hr h => ?_)
  · obtain ⟨x, rfl, _⟩ := h
    rfl
  · obtain ⟨x, rfl, k⟩ := h
    refine ⟨_, pss_one (ps_ret (pe_and (pe_callB call_isi (by rfl) T.isi (by decide +kernel) (pa_cons (pv 0) (pa_cons (pe_bltn (v := .ty "int") (by rfl) T.int (by decide +kernel) rfl) pa_nil))) (pe_one (pe_not (pe_callB call_isi (by rfl) T.isi (by decide +kernel) (pa_cons (pv 0) (pa_cons (pe_bltn (v := .ty "bool") (by rfl) T.bool (by decide +kernel) rfl) pa_nil))))))), ?_⟩
    rcases k with ⟨i, rfl, k⟩ | ⟨⟨tn, ty, k2⟩, k⟩
    · refine ⟨_, rfl, _, _, _, _, _, rfl, .ty _, .base (.int i), kit_ty (r := true) (by decide +kernel), true, rfl, ?_⟩
      exact iteT ⟨_, rfl, _, _, _, _, _, rfl, .ty _, .base (.int i), kit_ty (r := false) (by decide +kernel), false, rfl, k⟩
    · rcases k2 with rfl | k2
      · refine ⟨_, rfl, _, _, _, _, _, rfl, .ty _, ty, kit_ty (r := true) (by decide +kernel), true, rfl, ?_⟩
        exact iteT ⟨_, rfl, _, _, _, _, _, rfl, .ty _, ty, kit_ty (r := true) (by decide +kernel), true, rfl, k⟩
      · exact ⟨_, rfl, _, _, _, _, _, rfl, .ty _, ty, kit_ty (r := false) k2, false, rfl, iteF k⟩
/-- an attempt that is refused: the class and the field -/
def Refused (K : PySem.W.Frag) (H : Hp) (gs : List Int) (tl : Tl) (x : V) : Prop := OddV K H x ∨ ∃ i, x = .int i ∧ (i < 0 ∨ (tl = .fin ∧ (gs.length : Int) < i))
structure Ers (K : PySem.W.Frag) (mg : Str → Option Value) (CA fA CL fL : Addr) : Prop where
  ea : ErX.ErTxt K mg "InvalidAttempt" "InvalidAttempt.__init__" "attempt" CA fA
  el : ErX.ErTxt K mg "LimitExceeded" "LimitExceeded.__init__" "limit" CL fL
/-- a call is refused with the field v of an error of the class at C -/
def Out (H : Hp) (E : XK) (C : Addr) (fl : Str) (v : V) : Prop := ∀ d H', H d = none → Same H H' → H' d = some (.xd [(fl, v)]) → E (.ref C) (some d) H'
theorem out_of {H : Hp} {E : XK} {C : Addr} {fl : Str} {v : V} (o : Out H E C fl v) : ∀ d, H d = none → E (.ref C) (some d) (upd H d (.xd [(fl, v)])) := fun d hd => o d _ hd (same_new hd) upd_same
def spChkR (K : PySem.W.Frag) (C CA CL : Addr) : Sp := fun vs H Q E => ∃ (p g t o : Addr) (gs : List Int) (tl : Tl) (x : V), vs = [.ref p, x] ∧ RuleAt C H p g t o gs tl ∧
  ((Refused K H gs tl x ∧ Out H E CA "attempt" x) ∨ (∃ n : Nat, x = .int (n : Int) ∧ (AttOk gs tl n → Q .non H) ∧ (∀ b, tl = .times b → 1000 < n → Out H E CL "limit" (.int 1000)) ∧ (tl = .fin → n ≤ gs.length)))
theorem ok_chkR {f C fi CA fA CL fL : Addr} {fd fdi : FuncData} (F : Fun K "_check_attempt" "Rule._check_attempt" s_Rule_check_attempt f fd) (T : Txt K mg C) (X : Ers K mg CA fA CL fL) (FI : Fun K "is_integer" "is_integer" s_is_integer fi fdi) (bI : Binds K fdi ["value"] []) (mI : mg "is_integer" = some (.ref fi)) :
    FnOk P w K mg base (L2.CX P w) 3 f fd ["self", "attempt"] (spChkR K C CA CL) := by
  have GI : FnOk P w K mg base CX0 1 fi fdi ["value"] (spIsAny K) := ok_isAny FI T
  obtain ⟨t1, m1⟩ := T.mLast
  refine F.okX scCheck (fun vs H Q E h => ?_) (fun cdv A outer s H vs Q E hr h => ?_)
  · obtain ⟨p, g, t, o, gs, tl, x, rfl, _⟩ := h
    rfl
  · obtain ⟨p, g, t, o, gs, tl, x, rfl, R, k⟩ := h
    have hr1 := hr.mono (show 1 ≤ 2 by decide)
    refine ⟨_, (pss_cons (ps_if (PW.pt (pw_or (pt_not (pt_val (pe_call GI hr1 rfl mI FI.kp bI .nil pass0 (pa_cons (pv 1) pa_nil)))) (pw_or1 (pt_cmpR op_lt (pv 1) pe_int (nomark _))))) (pss_one (ps_raiseEr rfl X.ea hr (takes_of rfl rfl rfl rfl) (pa_cons (pv 1) pa_nil))) pss_nil) (pss_cons (ps_if (PW.pt (pw_and (pt_cmpR op_eq (pe_ix ix_tup (pe_fld (pv 0) rfl) pe_int (fun _ _ => rfl)) pe_str (nomark _)) (pw_and1 (pt_cmpR op_ge (pv 1) (pe_callB call_len_seq (by rfl) T.len (by decide +kernel) (pa_cons (pe_fld (pv 0) rfl) pa_nil)) (nomark _))))) (pss_one (ps_raiseEr rfl X.ea hr (takes_of rfl rfl rfl rfl) (pa_cons (pv 1) pa_nil))) pss_nil) (pss_one (ps_if (PW.pt (pw_and (pt_cmpR op_eq (pe_ix ix_tup (pe_fld (pv 0) rfl) pe_int (fun _ _ => rfl)) pe_str (nomark _)) (pw_and1 (pt_cmpR op_gt (pv 1) (pe_glob (v := .int 1000) rfl m1 ⟨_, rfl⟩) (nomark _))))) (pss_one (ps_raiseEr rfl X.el hr (takes_of rfl rfl rfl rfl) (pa_cons (pe_glob (v := .int 1000) rfl m1 ⟨_, rfl⟩) pa_nil))) pss_nil)))), ?_⟩
    rcases k with ⟨hx, ko⟩ | ⟨n, rfl, kok, kl, kf⟩
    · rcases hx with hx | ⟨i, rfl, hi⟩
      · refine ⟨_, rfl, _, rfl, .inr ⟨hx, false, rfl, iteT ?_⟩⟩
        exact ⟨_, rfl, _, rfl, out_of ko⟩
      · refine ⟨_, rfl, _, rfl, .inl ⟨i, rfl, true, rfl, iteF ⟨_, rfl, _, _, rfl, rfl, _, rfl, ?_⟩⟩⟩
        by_cases h0 : i < 0
        · exact iteTb (decide_eq_true h0) ⟨_, rfl, _, rfl, out_of ko⟩
        · obtain ⟨rfl, hl⟩ := hi.resolve_left h0
          refine iteFb (decide_eq_false h0) ?_
          refine rdIs T R rfl (iteTb wEE ?_)
          refine ⟨_, rfl, rdO T R rfl ⟨o, _, rfl, .inl (SqL.of R.ho), _, _, rfl, rfl, _, rfl, iteTb (decide_eq_true ?_) ⟨_, rfl, _, rfl, out_of ko⟩⟩⟩
          rw [List.length_map, offs_len]
          omega
    · refine ⟨_, rfl, _, rfl, .inl ⟨_, rfl, true, rfl, iteF ⟨_, rfl, _, _, rfl, rfl, _, rfl, iteFb (decide_eq_false (by omega)) ?_⟩⟩⟩
      refine rdIs T R rfl ?_
      cases tl with
      | fin =>
        have hn := kf rfl
        refine iteTb wEE ?_
        refine ⟨_, rfl, rdO T R rfl ⟨o, _, rfl, .inl (SqL.of R.ho), _, _, rfl, rfl, _, rfl, iteFb (decide_eq_false ?_) ?_⟩⟩
        · rw [List.length_map, offs_len]
          omega
        · exact rdIs T R rfl (iteFb wET (iteF (kok hn)))
      | times b =>
        refine iteFb wTE (iteF ?_)
        refine rdIs T R rfl (iteTb wTT ⟨_, rfl, _, _, rfl, rfl, _, rfl, ?_⟩)
        by_cases h1 : 1000 < n
        · exact iteTb (decide_eq_true (by omega)) ⟨_, rfl, out_of (kl b rfl h1)⟩
        · exact iteFb (decide_eq_false (by omega)) (kok (by show n ≤ 1000; omega))
      | rep m =>
        refine iteFb wRE (iteF ?_)
        exact rdIs T R rfl (iteFb wRT (iteF (kok trivial)))
/-- passing on what a callee raises -/
theorem passUp {X : Cx} {E : XK} (tk : Takes X (fun cls d _ H => E cls d H)) : Passes (L2.CX X.prog X.w) X E := passes_call tk fun _ _ _ _ h => h
/-- the two ways of an attempt: refused, or a number -/
def Ways (K : PySem.W.Frag) (CA CL : Addr) (H : Hp) (E : XK) (gs : List Int) (tl : Tl) (x : V) (ok : Nat → Prop) : Prop :=
  (Refused K H gs tl x ∧ Out H E CA "attempt" x) ∨ (∃ n : Nat, x = .int (n : Int) ∧ (AttOk gs tl n → ok n) ∧ (∀ b, tl = .times b → 1000 < n → Out H E CL "limit" (.int 1000)) ∧ (tl = .fin → n ≤ gs.length))
def spOffR (K : PySem.W.Frag) (C CA CL : Addr) : Sp := fun vs H Q E => ∃ (p g t o : Addr) (gs : List Int) (tl : Tl) (x : V), vs = [.ref p, x] ∧ RuleAt C H p g t o gs tl ∧
  Ways K CA CL H E gs tl x fun n => ∀ H', Same H H' → Q (.int (off gs tl n)) H'
theorem ok_offsetR {f C fC fO CA CL : Addr} {fd fdC fdO : FuncData} (F : Fun K "offset" "Rule.offset" s_Rule_offset f fd) (T : Txt K mg C) (mC : Meth K C "_check_attempt" fC) (bC : Binds K fdC ["self", "attempt"] []) (mO : Meth K C "_offset_of" fO) (bO : Binds K fdO ["self", "attempt"] [])
    (GC : FnOk P w K mg base (L2.CX P w) 3 fC fdC ["self", "attempt"] (spChkR K C CA CL)) (GO : FnOk P w K mg base CX0 3 fO fdO ["self", "attempt"] (spOff C)) : FnOk P w K mg base (L2.CX P w) 4 f fd ["self", "attempt"] (spOffR K C CA CL) := by
  refine F.okX scOffset (fun vs H Q E h => ?_) (fun cdv A outer s H vs Q E hr h => ?_)
  · obtain ⟨p, g, t, o, gs, tl, x, rfl, _⟩ := h
    rfl
  · obtain ⟨p, g, t, o, gs, tl, x, rfl, R, k⟩ := h
    refine ⟨_, (pss_cons (ps_expr (pe_meth (E := E) (pv 0) T.cl mC GC hr bC .nil (passUp (takes_of rfl rfl rfl rfl)) (pa_cons (pv 1) pa_nil))) (pss_one (ps_ret (pe_meth (pv 0) T.cl mO GO hr bO .nil pass0 (pa_cons (pv 1) pa_nil))))), ?_⟩
    obtain ⟨dx, hob⟩ := R.ob
    refine ⟨_, rfl, p, dx, _, rfl, hob, flds_no _ _ _ (by decide +kernel) (by decide +kernel) (by decide +kernel), _, rfl, p, g, t, o, gs, tl, x, rfl, R, ?_⟩
    rcases k with k | ⟨n, rfl, kok, kl, kf⟩
    · exact .inl k
    · exact .inr ⟨n, rfl, fun ok => ⟨_, rfl, p, dx, _, rfl, hob, flds_no _ _ _ (by decide +kernel) (by decide +kernel) (by decide +kernel), _, rfl, p, g, t, o, gs, tl, n, rfl, R, ok, kok ok⟩, kl, kf⟩
def spGapR (K : PySem.W.Frag) (C CA CL : Addr) : Sp := fun vs H Q E => ∃ (p g t o : Addr) (gs : List Int) (tl : Tl) (x : V), vs = [.ref p, x] ∧ RuleAt C H p g t o gs tl ∧
  Ways K CA CL H E gs tl x fun n => (tl = .fin → n = gs.length → Out H E CA "attempt" (.int (n : Int))) ∧ ((tl = .fin → n < gs.length) → Q (.int (gapf gs tl n)) H)
theorem ok_gapR {f C fC fA fR fW CA fE CL fL : Addr} {fd fdC fdA fdR fdW : FuncData} (F : Fun K "gap" "Rule.gap" s_Rule_gap f fd) (T : Txt K mg C) (X : Ers K mg CA fE CL fL) (mC : Meth K C "_check_attempt" fC) (bC : Binds K fdC ["self", "attempt"] [])
    (GC : FnOk P w K mg base (L2.CX P w) 3 fC fdC ["self", "attempt"] (spChkR K C CA CL)) (FA : Fun K "attempts" "Rule.attempts" s_Rule_attempts fA fdA) (bA : Binds K fdA ["self"] []) (mA : Meth K C "attempts" fA)
    (FR : Fun K "first_repeating" "Rule.first_repeating" s_Rule_first_repeating fR fdR) (bR : Binds K fdR ["self"] []) (mR : Meth K C "first_repeating" fR)
    (FW : Fun K "_power" "_power" s_power fW fdW) (bW : Binds K fdW ["base", "exponent"] []) (mW : mg "_power" = some (.ref fW)) : FnOk P w K mg base (L2.CX P w) 4 f fd ["self", "attempt"] (spGapR K C CA CL) := by
  have GA : FnOk P w K mg base CX0 1 fA fdA ["self"] (spAtt C) := ok_attempts FA T
  have GR : FnOk P w K mg base CX0 1 fR fdR ["self"] (spFR C) := ok_fr FR T
  have GW : FnOk P w K mg base CX0 1 fW fdW ["base", "exponent"] spPower := ok_power FW
  refine F.okX scGap (fun vs H Q E h => ?_) (fun cdv A outer s H vs Q E hr h => ?_)
  · obtain ⟨p, g, t, o, gs, tl, x, rfl, _⟩ := h
    rfl
  · obtain ⟨p, g, t, o, gs, tl, x, rfl, R, ways⟩ := h
    have hr1 := hr.mono (show 1 ≤ 3 by decide)
    refine ⟨_, (pss_cons (ps_expr (pe_meth (E := E) (pv 0) T.cl mC GC hr bC .nil (passUp (takes_of rfl rfl rfl rfl)) (pa_cons (pv 1) pa_nil))) (pss_cons (ps_if (pt_cmpR op_eq (pe_op op_add (pv 1) pe_int) (pe_meth0 (pv 0) T.cl mA GA hr1 bA .nil pass0) (nomark _)) (pss_one (ps_raiseEr rfl X.ea hr (takes_of rfl rfl rfl rfl) (pa_cons (pv 1) pa_nil))) pss_nil) (pss_cons (ps_if (pt_cmpR op_lt (pv 1) (pe_callB call_len_seq (by rfl) T.len (by decide +kernel) (pa_cons (pe_fld (pv 0) rfl) pa_nil)) (nomark _)) (pss_one (ps_ret (pe_ix ix_list (pe_fld (pv 0) rfl) (pv 1) (fun _ _ => rfl)))) pss_nil) (pss_cons (ps_set (i := 2) scGap.nd rfl (Or.inl rfl) (pe_op op_sub (pv 1) (pe_callB call_len_seq (by rfl) T.len (by decide +kernel) (pa_cons (pe_fld (pv 0) rfl) pa_nil)))) (pss_cons (ps_if (pt_cmpR op_eq (pe_ix ix_tup (pe_fld (pv 0) rfl) pe_int (fun _ _ => rfl)) pe_str (nomark _)) (pss_one (ps_ret (pe_op op_mul (pe_ix ix_list (pe_fld (pv 0) rfl) (pe_un un_neg pe_int) (fun _ _ => rfl)) (pe_call GW hr1 rfl mW FW.kp bW .nil pass0 (pa_cons (pe_ix ix_tup (pe_fld (pv 0) rfl) pe_int (fun _ _ => rfl)) (pa_cons (pe_op op_add (pv 2) pe_int) pa_nil)))))) pss_nil) (pss_one (ps_ret (pe_ix ix_list (pe_fld (pv 0) rfl) (pe_op op_add (pe_meth0 (pv 0) T.cl mR GR hr1 bR .nil pass0) (pe_op op_mod (pv 2) (pe_ix ix_tup (pe_fld (pv 0) rfl) pe_int (fun _ _ => rfl)))) (fun _ _ => rfl))))))))), ?_⟩
    obtain ⟨dx, hob⟩ := R.ob
    have nF : (flds g t o).lookup ("first_repeating" : Str) = none := flds_no _ _ _ (by decide +kernel) (by decide +kernel) (by decide +kernel)
    have nA : (flds g t o).lookup ("attempts" : Str) = none := flds_no _ _ _ (by decide +kernel) (by decide +kernel) (by decide +kernel)
    refine ⟨_, rfl, p, dx, _, rfl, hob, flds_no _ _ _ (by decide +kernel) (by decide +kernel) (by decide +kernel), _, rfl, p, g, t, o, gs, tl, x, rfl, R, ?_⟩
    rcases ways with k | ⟨n, rfl, kok, kl, kf⟩
    · exact .inl k
    refine .inr ⟨n, rfl, fun ok => ?_, kl, kf⟩
    have k0 := kok ok
    refine ⟨_, rfl, _, _, rfl, rfl, _, rfl, p, dx, _, rfl, hob, nA, p, g, t, o, gs, tl, rfl, R, ?_⟩
    by_cases hlast : tl = .fin ∧ n = gs.length
    · obtain ⟨rfl, rfl⟩ := hlast
      refine ⟨rfl, _, rfl, iteTb (decide_eq_true rfl) ⟨_, rfl, _, rfl, out_of (k0.1 rfl rfl)⟩⟩
    have okf : tl = .fin → n < gs.length := fun e => by
      have := kf e
      have : n ≠ gs.length := fun z => hlast ⟨e, z⟩
      omega
    have k := k0.2 okf
    have hsc : scal (V.int ((n : Int) + 1)) (attV gs tl) = true := by cases tl <;> rfl
    have hne : decide (V.int ((n : Int) + 1) = attV gs tl) = false := by
      cases tl with
      | fin =>
        have := okf rfl
        refine decide_eq_false fun e => ?_
        have := V.int.inj e
        omega
      | times b => exact decide_eq_false fun e => by cases e
      | rep m => exact decide_eq_false fun e => by cases e
    refine ⟨hsc, _, rfl, iteFb hne ?_⟩
    refine ⟨_, rfl, rdG T R rfl ⟨g, _, rfl, .inl (SqL.of R.hg), _, _, rfl, rfl, _, rfl, ?_⟩⟩
    rw [List.length_map]
    by_cases hn : n < gs.length
    · refine iteTb (decide_eq_true (by omega)) ?_
      refine rdGx T R rfl ⟨_, rfl, g, _, _, _, rfl, rfl, SqL.of R.hg, at_map (getD_get hn), ?_⟩
      have e : gapf gs tl n = gs.getD n 0 := if_pos hn
      rw [← e]
      exact k
    · refine end_cmp (by omega) ?_
      refine ⟨_, rfl, ?_⟩
      refine rdG T R rfl ⟨g, _, rfl, .inl (SqL.of R.hg), _, _, rfl, rfl, ?_⟩
      have ef : ((n : Int) - (((gs.map V.int).length : Nat) : Int)) = ((n - gs.length : Nat) : Int) := by
        rw [List.length_map]
        omega
      show tSeq _ _ _ (List.set _ 2 (some (V.int ((n : Int) - (((gs.map V.int).length : Nat) : Int))))) H
      rw [ef]
      refine rdIs T R rfl ?_
      cases tl with
      | fin => exact absurd (okf rfl) hn
      | times b =>
        have hl := R.okT.1
        have hb0 := R.okT.2.1
        have hb1 := R.okT.2.2
        have hn1 : n ≤ 1000 := ok
        have hg := gap_bd R.okG (k := gs.length - 1) (by omega)
        have hg : 1 ≤ lastG gs ∧ lastG gs ≤ 1000000000000 := hg
        refine iteTb wTT ?_
        refine rdLast T R rfl hl ?_
        refine rdB T R rfl ⟨_, rfl, _, _, rfl, rfl, b, n - gs.length + 1, ?_, by omega, by omega, by omega, _, _, rfl, rfl, .inl ⟨by omega, by omega⟩, ?_⟩
        · rfl
        · have e : gapf gs (.times b) n = lastG gs * b ^ (n - gs.length + 1) := if_neg hn
          rw [e] at k
          exact k
      | rep m =>
        have hm0 := R.okT.1
        have hm1 := R.okT.2
        have hr0 : (n - gs.length) % m < m := Nat.mod_lt _ (by omega)
        refine iteFb wRT ?_
        refine rdGx T R rfl ⟨_, rfl, p, dx, _, rfl, hob, nF, p, g, t, o, gs, m, rfl, R, _, rfl, ?_⟩
        refine rdN T R rfl ⟨_, _, rfl, rfl, by omega, _, _, rfl, rfl, ?_⟩
        refine ⟨g, _, _, .int (gs.getD (gs.length - m + (n - gs.length) % m) 0), rfl, rfl, SqL.of R.hg, ?_, ?_⟩
        · rw [← Int.natCast_emod, ← Int.natCast_add]
          exact at_map (getD_get (by omega))
        · have e : gapf gs (.rep m) n = gs.getD (gs.length - m + (n - gs.length) % m) 0 := if_neg hn
          rw [e] at k
          exact k
end
end RS
/-! ### try .. except (A, B): a tuple of two classes -/
namespace Two
open PySem PySem.Spec PyProof.Rows L2
section
variable {X : Cx} {x y : Str} {c1 c2 : Value} {np np2 tp pos' : Pos} {kt : Nat}
/-- what the clause wishes of an exception of the body -/
def wTwo (K : PySem.W.Frag) (c1 c2 : Value) (ts : Addr → Value → Option Addr → TS) (Wout : WX) (D : Ends) : WX := fun cls d σ H =>
  ∃ b, PySem.W.exmAny K cls [c1, c2] = some b ∧ (b = true → ∀ a, H a = none → ts a cls d D σ H) ∧ (b = false → Wout cls d σ H)
/-- the flight goes on in a heap that holds more -/
theorem fly_more {B h h2 : Heap} {l : List Env} {e : Addr} {Z : Obj → Prop} (F : HandSPX.FlyingZ B l e Z h) (more : ∀ q o, h.get? q = some o → h2.get? q = some o) : HandSPX.FlyingZ B l e Z h2 := by
  have ⟨st, ne, fr, oe, vs, T, oT, rest⟩ := F
  have ⟨ts, he, hz, hd, h1, hT0, hTe, hT, hdT, h3⟩ := rest
  refine ⟨fun q o z => more q o (st q o z), ne, Heap.FunFrames.of_keeps (fun q o z _ => ⟨o, more q o z, rfl⟩) fr, oe, vs, T, oT, ts, ?_⟩
  exact ⟨more e oe he, hz, hd, h1, hT0, hTe, more T oT hT, hdT, h3⟩
/-- an exception's own object is no frame of the stack -/
theorem off_stack {B h : Heap} {a : Addr} {o : Obj} {vs : Array Value} (ff : h.FunFrames B (X.env :: X.outer)) (ho : h.get? a = some o) (hd : o.data = .fields vs) (hf : X.env.frame = some X.env.locals) : a ≠ X.env.locals ∧ a ∉ X.fs := by
  have no : ∀ env ∈ X.env :: X.outer, env.frame ≠ some a := fun env hm hfr => by
    have ⟨_, o2, ho2, nd⟩ := Heap.FunFrames.mem ff (List.mem_filterMap.mpr ⟨env, hm, hfr⟩)
    rw [ho] at ho2
    exact nd vs (Option.some.inj ho2 ▸ hd)
  refine ⟨fun e => no X.env (by simp) (by rw [hf, e]), fun hm => ?_⟩
  have ⟨env, h1, h2⟩ := List.mem_filterMap.mp hm
  exact no env (by simp [h1]) h2
variable {pins p0 : List (Addr × Obj)} {σ0 : L2.St} {H0 : Hp} {s0 : Shared} {D : Ends}
/-- behind the suite the statement's own ends hold -/
theorem suite_back (I : Inv X p0 σ0 H0 s0) {a : Addr} {oe : Obj} : ∀ (f : Flow) (s : Shared), SP (X.suite a ((a, oe) :: (X.pn ++ pins))) [] D f s → SP X pins D f s
  | .ret _, _, ⟨v, σ, H, J, r, q⟩ => ⟨v, σ, H, J.unsuite I.ok, r, q⟩
  | .next, _, ⟨σ, H, J, q⟩ => ⟨σ, H, J.unsuite I.ok, q⟩
  | .brk, _, ⟨σ, H, J, q⟩ => ⟨σ, H, J.unsuite I.ok, q⟩
  | .cont, _, ⟨σ, H, J, q⟩ => ⟨σ, H, J.unsuite I.ok, q⟩
theorem body_back (I : Inv X p0 σ0 H0 s0) {xe : Value → Shared → Prop} : ∀ (f : Flow) (s : Shared), SP (X.tr (X.pn ++ pins) xe) [] D f s → SP X pins D f s
  | .ret _, _, ⟨v, σ, H, J, r, q⟩ => ⟨v, σ, H, J.ofTry I.ok, r, q⟩
  | .next, _, ⟨σ, H, J, q⟩ => ⟨σ, H, J.ofTry I.ok, q⟩
  | .brk, _, ⟨σ, H, J, q⟩ => ⟨σ, H, J.ofTry I.ok, q⟩
  | .cont, _, ⟨σ, H, J, q⟩ => ⟨σ, H, J.ofTry I.ok, q⟩
/-- a class named in the clause is found -/
theorem name_at {z : Str} {c : Value} {p : Pos} {X : Cx} {pins : List (Addr × Obj)} {σ : L2.St} {H : Hp} {s : Shared} (I : Inv X pins σ H s) (n : Names X z c) {Q E : Value → Shared → Prop} (q : Q c s) : wpAny (model X.prog X.w) X.A (eval (.Name z p) X.env) Q E s :=
  n.2.2.elim (fun m => ld_glob I n.1 m q n.2.1) fun m => ld_blt I n.1 m.1 m.2.1 q m.2.2 n.2.1
/-- the clause, met by an exception in flight over the state J -/
theorem clause {B : Heap} {a : Addr} {cls : Value} {d : Option Addr} {σ : L2.St} {H : Hp} {sI s : Shared} {b₀ : Stmt} {suite : List Stmt} {ts : Addr → Value → Option Addr → TS} {Wout : WX} (hs : X.stack = X.env :: X.outer) (hf : X.env.frame = some X.env.locals) (n1 : Names X x c1) (n2 : Names X y c2) (tk : Takes X Wout)
    (hsu : ∀ (a : Addr) (oe : Obj) (cls : Value) (d : Option Addr) (pn : List (Addr × Obj)), Zc cls d oe → (∃ vs, oe.data = .fields vs) → PSs (X.suite a ((a, oe) :: pn)) (b₀ :: suite) (ts a cls d))
    (hst : starEach [.Name x np, .Name y np2] X.env = [(false, eval (.Name x np) X.env), (false, eval (.Name y np2) X.env)])
    (J : Inv X pins σ H sI) (nb : ∀ b o, sI.heap.get? b = some o → b ∉ frs X.stack → B.get? b = some o) (os : s.os = sI.os) (ag : AllBare s.gens) (na : H a = none)
    (F : HandSPX.FlyingZ B (X.env :: X.outer) a (Zc cls d) s.heap) (up : sI.heap.UpToSlots s.heap) (w : wTwo X.K c1 c2 ts Wout D cls d σ H) :
    wpAny (model X.prog X.w) X.A (handleBy (.ref a) X.env [.ExceptHandler (some (.Tuple [.Name x np, .Name y np2] kt tp)) none (b₀ :: suite) pos']) (SP X pins D) X.xe s := by
  have ⟨b, hb, yes, no⟩ := w
  have at' : ∀ {h2 : Heap}, HandSPX.FlyingZ B (X.env :: X.outer) a (Zc cls d) h2 → sI.heap.UpToSlots h2 → ∃ oe vs, h2.get? a = some oe ∧ Zc cls d oe ∧ oe.data = .fields vs ∧ Inv (X.suite a ((a, oe) :: (X.pn ++ pins))) [] σ H { s with heap := h2 } := fun F2 u2 => by
    have ⟨oe, vs, he, hz, hd⟩ := F2.there
    have ⟨n1, n2⟩ := off_stack F2.2.2.1 he hd hf
    exact ⟨oe, vs, he, hz, hd, (J.landed (s' := { s with heap := _ }) nb F2.1 u2 os ag).suite he hd na n1 n2⟩
  have ⟨oe, vs, he, hz, hd, S⟩ := at' F up
  refine wpAny_handleBy_cons (codeAny_handlers_test (wpAny_Tuple_spliced ?_)) fun z => nomatch z
  rw [hst]
  show wpAny _ _ (spliced [(false, eval (.Name x np) X.env), (false, eval (.Name y np2) X.env)]) _ _ s
  refine Calls.spliced_cons (name_at (X := X.suite a ((a, oe) :: (X.pn ++ pins))) S n1 ?_)
  refine Calls.spliced_cons (name_at (X := X.suite a ((a, oe) :: (X.pn ++ pins))) S n2 ?_)
  refine Calls.spliced_nil ⟨show 2 ≤ sizeLine by decide, ?_⟩
  -- the tuple of the two classes is laid
  have more : ∀ q o, s.heap.get? q = some o → (s.heap.push { cls := .type "tuple", data := .seq [c1, c2].toArray }).get? q = some o := fun _ _ z => Heap.get?_push_of_some _ z
  have tup : (s.heap.push { cls := .type "tuple", data := .seq [c1, c2].toArray }).get? s.heap.objs.size = some { cls := .type "tuple", data := .seq [c1, c2].toArray } := Heap.get?_push_size s.heap rfl
  have F5 := fly_more F more
  have u5 := up.trans (Heap.UpToSlots.of_keeps more)
  show wpAny _ _ (excMatches (.ref a) (.ref s.heap.objs.size)) _ _ { s with heap := s.heap.push { cls := .type "tuple", data := .seq [c1, c2].toArray } }
  generalize s.heap.push { cls := .type "tuple", data := .seq [c1, c2].toArray } = h5 at more tup F5 u5
  have typ : PySem.W.Looks (model X.prog X.w) h5 (typeOf (.ref a)) cls := fun _ _ _ _ le q => wpAny_typeOf_ref (le _ _ (more _ _ he)) (hz.1.symm ▸ q)
  refine (PySem.W.exm_tup2 (M := model X.prog X.w) (J.landed (s' := { s with heap := h5 }) nb F5.1 u5 os ag).kIn typ tup hb).here ?_
  cases b
  · -- no clause is left: it flies on
    refine wpAny_handleBy_nil ?_
    have ⟨_, _, _, oe2, _, T, _, _, he2, _, hd2, hT, _⟩ := F5
    unfold PySem.passOn
    refine wpAny_bind (wpAny_field he2 hd2 hT ?_)
    rw [if_neg (by simp)]
    have on : wpAny (model X.prog X.w) X.A (setFlight (.ref a) X.env.frame) (fun _ s4 => wpAny (model X.prog X.w) X.A (throw (.ref a) : Sem Flow) (SP X pins D) X.xe s4) X.xe { s with heap := h5 } := by
      rw [hf]
      exact HandSPX.setFlight_upZ F5 fun _ hh u => wpAny_throw (tk _ _ ⟨a, B, sI, pins, σ, H, cls, d, rfl, J, nb, u5.trans u, .inr (.inr (hs ▸ hh)), na, os, ag, no rfl⟩)
    first
      | exact wpAny_bind (wpAny_pure (wpAny_bind on))
      | exact wpAny_bind on
  · -- the suite
    refine codeAny_handlers_suite (HandSPX.lands_againZ F5 fun h4 F4 u4 => ?_)
    have ⟨oe4, vs4, he4, hz4, hd4, S4⟩ := at' F4 (u5.trans u4)
    exact wpAny_mono ((hsu a oe4 cls d (X.pn ++ pins) hz4 ⟨_, hd4⟩).run [] _ _ H _ S4 (yes rfl a na)) (suite_back J) fun _ _ z => z.elim
theorem ps_try_two {body suite : List Stmt} {b₀ : Stmt} {pos : Pos} {tb : WX → TS} {ts : Addr → Value → Option Addr → TS} {Wout : WX} (hs : X.stack = X.env :: X.outer) (hf : X.env.frame = some X.env.locals) (n1 : Names X x c1) (n2 : Names X y c2) (tk : Takes X Wout)
    (hb : ∀ (W : WX) (pn : List (Addr × Obj)) (xe : Value → Shared → Prop), Takes (X.tr pn xe) W → PassesOwn (model X.prog X.w) X.A X.env xe → PSs (X.tr pn xe) body (tb W))
    (hsu : ∀ (a : Addr) (oe : Obj) (cls : Value) (d : Option Addr) (pn : List (Addr × Obj)), Zc cls d oe → (∃ vs, oe.data = .fields vs) → PSs (X.suite a ((a, oe) :: pn)) (b₀ :: suite) (ts a cls d))
    (hst : starEach [.Name x np, .Name y np2] X.env = [(false, eval (.Name x np) X.env), (false, eval (.Name y np2) X.env)] := by rfl) :
    PS X (.Try body [.ExceptHandler (some (.Tuple [.Name x np, .Name y np2] kt tp)) none (b₀ :: suite) pos'] [] [] pos) (fun D σ H => tb (wTwo X.K c1 c2 ts Wout D) D σ H) := by
  constructor
  intro pins s σ H D I h
  let hd : List ExceptHandler := [.ExceptHandler (some (.Tuple [.Name x np, .Name y np2] kt tp)) none (b₀ :: suite) pos']
  let xe : Value → Shared → Prop := fun e s₁ => wpAny (model X.prog X.w) X.A (noteFrame e X.env) (fun _ s₂ => wpAny (model X.prog X.w) X.A (setFlight e none) (fun _ s₃ => wpAny (model X.prog X.w) X.A (handleBy e X.env hd) (SP X pins D) X.xe s₃) X.xe s₂) X.xe s₁
  have fr : X.A.frames = some (X.env :: X.outer) := I.ok.frames.trans (congrArg some hs)
  have tk2 : Takes (X.tr (X.pn ++ pins) xe) (wTwo X.K c1 c2 ts Wout D) := by
    rintro u s' ⟨a, B, sI, p', σ', H', cls, d, rfl, J', nb, up, sky, na, os, ag, w⟩
    have J : Inv X pins σ' H' sI := J'.ofTry I.ok
    refine Sky.land Zc.steady fr hf (show Sky B (X.env :: X.outer) a (Zc cls d) X.env.locals s'.heap from hs ▸ sky) fun h3 F3 u3 => ?_
    exact clause (s := { s' with heap := h3 }) hs hf n1 n2 tk hsu hst J nb os ag na F3 (up.trans u3) w
  refine wpAny_Try_except (wpAny_mono ((hb _ (X.pn ++ pins) xe tk2 PassesOwn.looking).run [] s σ H D (I.toTry _) h) (fun f s1 r => ?_) fun _ _ z => z)
  have r := body_back I f s1 r
  cases f with
  | next => exact wpAny_execs_nil r
  | _ => exact r
end
end Two
namespace RS
open PySem L2
/-! ### values of any kind, all apart from the object at a0 -/
mutual
inductive Dx (a0 : Addr) (H : Hp) : V → PyData → Prop
  | non : Dx a0 H .non .none
  | bl (b : Bool) : Dx a0 H (.bl b) (.bool b)
  | int (i : Int) : Dx a0 H (.int i) (.int i)
  | str (x : Str) : Dx a0 H (.str x) (.str x)
  | lst {a : Addr} {xs : List V} {ds : List PyData} : a ≠ a0 → H a = some (.lst xs) → DxAll a0 H xs ds → Dx a0 H (.ref a) (.list ds)
  | tup {a : Addr} {xs : List V} {ds : List PyData} : a ≠ a0 → H a = some (.tup xs) → DxAll a0 H xs ds → Dx a0 H (.ref a) (.tuple ds)
  | dct {a : Addr} : a ≠ a0 → H a = some (.dK []) → Dx a0 H (.ref a) (.dict [])
inductive DxAll (a0 : Addr) (H : Hp) : List V → List PyData → Prop
  | nil : DxAll a0 H [] []
  | cons {v : V} {vs : List V} {d : PyData} {ds : List PyData} : Dx a0 H v d → DxAll a0 H vs ds → DxAll a0 H (v :: vs) (d :: ds)
end
section
variable {a0 : Addr} {H H' : Hp}
mutual
theorem Dx.kx (k : Kx a0 H H') : ∀ (d : PyData) (v : V), Dx a0 H v d → Dx a0 H' v d
  | .none, _, h => by cases h; exact .non
  | .bool _, _, h => by cases h; exact .bl _
  | .int _, _, h => by cases h; exact .int _
  | .str _, _, h => by cases h; exact .str _
  | .list ds, _, h => by
    cases h with
    | lst n e r => exact .lst n (k _ _ n e) (DxAll.kx k ds _ r)
  | .tuple ds, _, h => by
    cases h with
    | tup n e r => exact .tup n (k _ _ n e) (DxAll.kx k ds _ r)
  | .dict _, _, h => by
    cases h with
    | dct n e => exact .dct n (k _ _ n e)
theorem DxAll.kx (k : Kx a0 H H') : ∀ (ds : List PyData) (vs : List V), DxAll a0 H vs ds → DxAll a0 H' vs ds
  | [], _, h => by cases h; exact .nil
  | d :: ds, _, h => by
    cases h with
    | cons h1 h2 => exact .cons (Dx.kx k d _ h1) (DxAll.kx k ds _ h2)
end
theorem Dx.same (s : Same H H') {v : V} {d : PyData} (h : Dx a0 H v d) : Dx a0 H' v d := Dx.kx (Kx.of s) d v h
theorem Dx.kx' (k : Kx a0 H H') {v : V} {d : PyData} (h : Dx a0 H v d) : Dx a0 H' v d := Dx.kx k d v h
theorem DxAll.same (s : Same H H') {v : List V} {d : List PyData} (h : DxAll a0 H v d) : DxAll a0 H' v d := DxAll.kx (Kx.of s) d v h
theorem DxAll.len : ∀ {vs : List V} {ds : List PyData}, DxAll a0 H vs ds → vs.length = ds.length
  | _, [], h => by cases h; rfl
  | _, d :: ds, h => by cases h with | cons _ h2 => rw [List.length_cons, List.length_cons, h2.len]
theorem DxAll.at : ∀ {vs : List V} {ds : List PyData}, DxAll a0 H vs ds → ∀ {i : Nat} {v : V}, vs[i]? = some v → ∃ d, ds[i]? = some d ∧ Dx a0 H v d
  | _, [], h, i, v, e => by cases h; simp at e
  | _, d :: ds, h, i, v, e => by
    cases h with
    | cons h1 h2 =>
      cases i with
      | zero => simp at e; subst e; exact ⟨d, rfl, h1⟩
      | succ i => exact h2.at (i := i) (by simpa using e)
end
/-- the name of a value's type -/
def tyN : PyData → String
  | .none => "NoneType"
  | .bool _ => "bool"
  | .int _ => "int"
  | .str _ => "str"
  | .list _ => "list"
  | .tuple _ => "tuple"
  | .dict _ => "dict"
theorem Dx.ty {K : PySem.W.Frag} {a0 : Addr} {H : Hp} {v : V} {d : PyData} (h : Dx a0 H v d) : TyX K H v (.type (tyN d)) := by
  cases h with
  | non => exact .base .non
  | bl b => exact .base (.bl b)
  | int i => exact .base (.int i)
  | str x => exact .base (.str x)
  | lst _ e _ => exact .base (.lst e)
  | tup _ e _ => exact .base (.tup e)
  | dct _ e => exact .base (.dK e)
def isIntD : PyData → Bool
  | .int _ => true
  | _ => false
theorem Dx.odd {K : PySem.W.Frag} {a0 : Addr} {H : Hp} {v : V} {d : PyData} (h : Dx a0 H v d) (n : isIntD d = false) : OddV K H v := by
  refine ⟨tyN d, h.ty, ?_⟩
  cases d with
  | bool b => exact .inl rfl
  | int i => cases n
  | none => exact .inr (by show kitB "NoneType" "int" = _; decide +kernel)
  | str x => exact .inr (by show kitB "str" "int" = _; decide +kernel)
  | list x => exact .inr (by show kitB "list" "int" = _; decide +kernel)
  | tuple x => exact .inr (by show kitB "tuple" "int" = _; decide +kernel)
  | dict x => exact .inr (by show kitB "dict" "int" = _; decide +kernel)
theorem Dx.int_of {a0 : Addr} {H : Hp} {v : V} {d : PyData} (h : Dx a0 H v d) (n : isIntD d = true) : ∃ i, d = .int i ∧ v = .int i := by
  cases h with
  | int i => exact ⟨i, rfl, rfl⟩
  | _ => cases n
/-- attempts, pairs, repetitions among such values -/
def attB (gs : List Int) (tl : Tl) (n : Nat) : Bool := match tl with
  | .fin => decide (n ≤ gs.length)
  | .times _ => decide (n ≤ 1000)
  | .rep _ => true
theorem attB_iff {gs : List Int} {tl : Tl} {n : Nat} : attB gs tl n = true ↔ AttOk gs tl n := by
  cases tl with
  | fin => exact decide_eq_true_iff
  | times b => exact decide_eq_true_iff
  | rep m => exact ⟨fun _ => True.intro, fun _ => rfl⟩
def isAtt (gs : List Int) (tl : Tl) : PyData → Bool
  | .int i => decide (0 ≤ i) && attB gs tl i.toNat
  | _ => false
def natD : PyData → Nat
  | .int i => i.toNat
  | _ => 0
def twoD : PyData → Option (PyData × PyData)
  | .tuple [x, y] => some (x, y)
  | _ => none
def isPairD (gs : List Int) (tl : Tl) (d : PyData) : Bool := match twoD d with
  | some (x, y) => isAtt gs tl x && (isAtt gs tl y && decide (natD x < natD y))
  | none => false
def fstN (d : PyData) : Nat := match twoD d with
  | some (x, _) => natD x
  | none => 0
def sndN (d : PyData) : Nat := match twoD d with
  | some (_, y) => natD y
  | none => 0
def diffD (gs : List Int) (tl : Tl) (d : PyData) : Int := off gs tl (sndN d) - off gs tl (fstN d)
def isRepD (gs : List Int) (tl : Tl) (d : PyData) : Bool := match twoD d with
  | some (x, y) => isPairD gs tl x && (isPairD gs tl y && (!decide (fstN x = fstN y) && decide (diffD gs tl x = diffD gs tl y)))
  | none => false
theorem isAtt_int {gs : List Int} {tl : Tl} {d : PyData} (h : isAtt gs tl d = true) : ∃ n : Nat, d = .int (n : Int) ∧ AttOk gs tl n := by
  cases d with
  | int i =>
    have h' : (decide (0 ≤ i) && attB gs tl i.toNat) = true := h
    rw [Bool.and_eq_true, decide_eq_true_iff] at h'
    refine ⟨i.toNat, ?_, attB_iff.mp h'.2⟩
    rw [Int.toNat_of_nonneg h'.1]
  | _ => cases h
theorem isPair_of {gs : List Int} {tl : Tl} {d : PyData} (h : isPairD gs tl d = true) : ∃ i j : Nat, d = .tuple [.int (i : Int), .int (j : Int)] ∧ AttOk gs tl i ∧ AttOk gs tl j ∧ i < j := by
  unfold isPairD at h
  unfold twoD at h
  split at h
  · rename_i x y e
    split at e
    · rename_i x' y'
      cases e
      rw [Bool.and_eq_true, Bool.and_eq_true, decide_eq_true_iff] at h
      obtain ⟨n, rfl, hn⟩ := isAtt_int h.1
      obtain ⟨m, rfl, hm⟩ := isAtt_int h.2.1
      refine ⟨n, m, rfl, hn, hm, ?_⟩
      have := h.2.2
      simpa [natD] using this
    · cases e
  · cases h
section
variable {P : Program} {w : World} {K : PySem.W.Frag} {mg : Str → Option Value} {base : Heap}
/-! ### o.m(e) within a try -/
def tMethW (C : Addr) (m : Str) (sp : Sp) (E : L2.St → XK) (ta : TE) (t : TA) : TE := fun σ H Q => ta σ H fun x H1 => ∃ a dx fs, x = .ref a ∧ H1 a = some (.ins C dx fs) ∧ fs.lookup m = none ∧ t σ H1 fun vs H2 => sp (x :: vs) H2 Q (E σ)
theorem pe_methW {X : Cx} {CX : CXT} {k : Nat} {f C : Addr} {fd : FuncData} {ps : List Str} {sp : Sp} {E : L2.St → XK} {m : Str} {pos apos : Pos} {e o : Expr} {es : List Expr} {ta : TE} {t : TA} {pl : Sem Bool} (he : PE X o ta) (c : Cls X.K C) (hm : Meth X.K C m f)
    (F : FnOk X.prog X.w X.K X.mg X.base CX k f fd ps sp) (hr : Room k X.A) (hb : Binds X.K fd ps []) (hx : ∀ σ, PassesAt CX X σ (E σ)) (ha : PA X (e :: es) t)
    (hst : starEach (e :: es) X.env = (false, eval e X.env) :: starEach es X.env := by rfl) (hpl : (backTo pos (starEach es X.env)).any (·.1) = false := by rfl)
    (ht : eval (.Call (.Attribute o m apos) (e :: es) [] pos) X.env = (do
      let ov ← eval o X.env
      standAt apos.atName
      let (f, first) ← holding [ov] (getMethod ov m pl)
      callWith pos f first (backTo pos (starEach (e :: es) X.env)) (backToKw pos (keywordEach [] X.env))) := by rfl) :
    PE X (.Call (.Attribute o m apos) (e :: es) [] pos) (tMethW C m sp E ta t) := by
  refine ⟨fun pins s σ H Q I h => ?_⟩
  refine PySem.W.methodCall_KW (pl := pl) (thn (he.run pins s σ H _ I h) fun u s1 ⟨x, H1, I1, rx, a, dx, fs, ex, ea, l, q⟩ => ?_) ht
  subst ex
  obtain rfl : u = Value.ref a := rx
  refine getmeth_ok I1 ea c hm l ?_
  refine PySem.W.callWith_K (first := [.ref a]) (h₀ := X.base) I.ok.mod.kin hm.kp (thn (ha.run pos pins s1 σ H1 _ I1 q) fun us s2 ⟨vs, H2, I2, r, q2⟩ => ⟨I2.kIn, ?_⟩) hst hpl
  exact run_fnS (us := .ref a :: us) (vs := .ref a :: vs) F hr hb (hx σ) I2 (.cons rfl r) q2
/-! ### _is_attempt -/
structure Cat (K : PySem.W.Frag) (CA CL : Addr) : Prop where
  a : PySem.W.exmAny K (.ref CA) [.ref CA, .ref CL] = some true
  l : PySem.W.exmAny K (.ref CL) [.ref CA, .ref CL] = some true
def spIsAtt (C : Addr) : Sp := fun vs H Q _ => ∃ (p g t o a0 : Addr) (gs : List Int) (tl : Tl) (v : V) (d : PyData), vs = [.ref p, v] ∧ RuleAt C H p g t o gs tl ∧ Dx a0 H v d ∧ ∀ H', Same H H' → Q (.bl (isAtt gs tl d)) H'
theorem scIsAtt : FnScope ["rule", "value"] ["rule", "value"] (defScope s_is_attempt) := ⟨rfl, rfl, rfl, by decide +kernel, rfl, by decide +kernel, by decide +kernel⟩
theorem ok_isAtt {f C fO CA fA CL fL : Addr} {fd fdO : FuncData} (F : Fun K "_is_attempt" "_is_attempt" s_is_attempt f fd) (T : Txt K mg C) (X : Ers K mg CA fA CL fL) (Y : Cat K CA CL)
    (mO : Meth K C "offset" fO) (bO : Binds K fdO ["self", "attempt"] []) (GO : FnOk P w K mg base (L2.CX P w) 4 fO fdO ["self", "attempt"] (spOffR K C CA CL)) : FnOk P w K mg base CX0 5 f fd ["rule", "value"] (spIsAtt C) := by
  refine F.ok scIsAtt (fun vs H Q E h => ?_) (fun cdv A outer s H vs Q E hr h => ?_)
  · obtain ⟨p, g, t, o, a0, gs, tl, v, d, rfl, _⟩ := h
    rfl
  · obtain ⟨p, g, t, o, a0, gs, tl, v, d, rfl, R, D, k⟩ := h
    refine ⟨_, (pss_cons (Two.ps_try_two (tb := fun W => tDrop (tMethW C "offset" (spOffR K C CA CL) (WE W) (tVar 0) (tCons (tVar 1) tNil))) (ts := fun _ _ _ => tRet (tC (.bl false))) (Wout := fun _ _ _ _ => False) rfl rfl ⟨rfl, by decide, .inl X.ea.gC⟩ ⟨rfl, by decide, .inl X.el.gC⟩ takes0
        (fun W pn xe tk _ => pss_one (ps_expr (pe_methW (pv 0) T.cl mO GO hr bO (fun σ => passAt tk σ) (by exact (pa_cons (pv 1) pa_nil)))))
        (fun _ _ _ _ _ _ _ => pss_one (ps_ret pe_bl))) (pss_one (ps_ret pe_bl))), ?_⟩
    obtain ⟨dx, hob⟩ := R.ob
    refine ⟨_, rfl, p, dx, _, rfl, hob, flds_no _ _ _ (by decide +kernel) (by decide +kernel) (by decide +kernel), _, rfl, p, g, t, o, gs, tl, v, rfl, R, ?_⟩
    cases hI : isIntD d with
    | false =>
      have e : isAtt gs tl d = false := by cases d <;> first | rfl | cases hI
      rw [e] at k
      exact .inl ⟨.inl (D.odd hI), fun _ H' _ S _ => ⟨true, Y.a, fun _ _ _ => k H' S, fun z => nomatch z⟩⟩
    | true =>
      obtain ⟨i, rfl, rfl⟩ := D.int_of hI
      by_cases h0 : i < 0
      · have e : isAtt gs tl (.int i) = false := by
          show (decide (0 ≤ i) && _) = false
          rw [decide_eq_false (by omega)]
          rfl
        rw [e] at k
        exact .inl ⟨.inr ⟨i, rfl, .inl h0⟩, fun _ H' _ S _ => ⟨true, Y.a, fun _ _ _ => k H' S, fun z => nomatch z⟩⟩
      · obtain ⟨n, rfl⟩ : ∃ n : Nat, i = (n : Int) := ⟨i.toNat, by omega⟩
        have e : isAtt gs tl (.int (n : Int)) = attB gs tl n := by
          show (decide (0 ≤ (n : Int)) && attB gs tl (n : Int).toNat) = _
          rw [decide_eq_true (by omega), Int.toNat_natCast]
          rfl
        rw [e] at k
        by_cases hf : tl = .fin ∧ gs.length < n
        · obtain ⟨rfl, hn⟩ := hf
          have e2 : attB gs .fin n = false := decide_eq_false (by omega)
          rw [e2] at k
          exact .inl ⟨.inr ⟨_, rfl, .inr ⟨rfl, by omega⟩⟩, fun _ H' _ S _ => ⟨true, Y.a, fun _ _ _ => k H' S, fun z => nomatch z⟩⟩
        · refine .inr ⟨n, rfl, fun ok H' S => ?_, fun b hb h1 => ?_, fun e3 => ?_⟩
          · rw [attB_iff.mpr ok] at k
            exact k H' S
          · subst hb
            have e2 : attB gs (.times b) n = false := decide_eq_false (by omega)
            rw [e2] at k
            exact fun _ H' _ S _ => ⟨true, Y.l, fun _ _ _ => k H' S, fun z => nomatch z⟩
          · by_cases hl : n ≤ gs.length
            · exact hl
            · exact absurd ⟨e3, by omega⟩ hf
end
end RS
namespace RS
open PySem L2
theorem tup_no {d : PyData} (h : ∀ ds, d ≠ .tuple ds) : kitB (tyN d) "tuple" = some false := by
  cases d with
  | tuple x => exact absurd rfl (h x)
  | none => show kitB "NoneType" "tuple" = _; decide +kernel
  | bool x => show kitB "bool" "tuple" = _; decide +kernel
  | int x => show kitB "int" "tuple" = _; decide +kernel
  | str x => show kitB "str" "tuple" = _; decide +kernel
  | list x => show kitB "list" "tuple" = _; decide +kernel
  | dict x => show kitB "dict" "tuple" = _; decide +kernel
theorem two_no {d : PyData} (h : ∀ ds, d ≠ .tuple ds) : twoD d = none := by
  cases d with
  | tuple x => exact absurd rfl (h x)
  | _ => rfl
theorem two_len {ds : List PyData} (h : ds.length ≠ 2) : twoD (.tuple ds) = none := by
  match ds, h with
  | [], _ => rfl
  | [_], _ => rfl
  | [_, _], h => exact absurd rfl h
  | _ :: _ :: _ :: _, _ => rfl
theorem dx_two {a0 : Addr} {H : Hp} {xs : List V} {ds : List PyData} (h : DxAll a0 H xs ds) (n : ds.length = 2) : ∃ x y dx dy, xs = [x, y] ∧ ds = [dx, dy] ∧ Dx a0 H x dx ∧ Dx a0 H y dy := by
  match ds, h with
  | [], _ => cases n
  | [_], _ => cases n
  | [d1, d2], .cons h1 (.cons h2 .nil) => exact ⟨_, _, _, _, rfl, rfl, h1, h2⟩
  | _ :: _ :: _ :: _, _ => simp at n
section
variable {P : Program} {w : World} {K : PySem.W.Frag} {mg : Str → Option Value} {base : Heap}
/-! ### _is_pair -/
def spIsPair (C : Addr) : Sp := fun vs H Q _ => ∃ (p g t o a0 : Addr) (gs : List Int) (tl : Tl) (v : V) (d : PyData), vs = [.ref p, v] ∧ RuleAt C H p g t o gs tl ∧ Dx a0 H v d ∧ ∀ H', Same H H' → Q (.bl (isPairD gs tl d)) H'
theorem scIsPair : FnScope ["rule", "value"] ["rule", "value"] (defScope s_is_pair) := ⟨rfl, rfl, rfl, by decide +kernel, rfl, by decide +kernel, by decide +kernel⟩
theorem ok_isPair {f C fA : Addr} {fd fdA : FuncData} (F : Fun K "_is_pair" "_is_pair" s_is_pair f fd) (T : Txt K mg C)
    (GA : FnOk P w K mg base CX0 5 fA fdA ["rule", "value"] (spIsAtt C)) (bA : Binds K fdA ["rule", "value"] []) (mA : mg "_is_attempt" = some (.ref fA)) (kA : PySem.W.keepIn K (.ref fA) = true) : FnOk P w K mg base CX0 6 f fd ["rule", "value"] (spIsPair C) := by
  refine F.ok scIsPair (fun vs H Q E h => ?_) (fun cdv A outer s H vs Q E hr h => ?_)
  · obtain ⟨p, g, t, o, a0, gs, tl, v, d, rfl, _⟩ := h
    rfl
  · obtain ⟨p, g, t, o, a0, gs, tl, v, d, rfl, R, D, k⟩ := h
    refine ⟨_, (pss_cons (ps_if (PW.pt (pw_or (pt_not (pt_val (pe_callB call_isi (by rfl) T.isi (by decide +kernel) (pa_cons (pv 1) (pa_cons (pe_bltn (v := .ty "tuple") (by rfl) T.tuple (by decide +kernel) rfl) pa_nil))))) (pw_or1 (pt_cmpR op_ne (pe_callB call_len_seq (by rfl) T.len (by decide +kernel) (pa_cons (pv 1) pa_nil)) pe_int (nomark _))))) (pss_one (ps_ret pe_bl)) pss_nil) (pss_one (ps_ret (pe_and (pe_call GA hr rfl mA kA bA .nil pass0 (pa_cons (pv 0) (pa_cons (pe_ix ix_tup (pv 1) pe_int (fun _ _ => rfl)) pa_nil))) (pe_and (pe_call GA hr rfl mA kA bA .nil pass0 (pa_cons (pv 0) (pa_cons (pe_ix ix_tup (pv 1) pe_int (fun _ _ => rfl)) pa_nil))) (pe_one (pe_cmpR op_lt (pe_ix ix_tup (pv 1) pe_int (fun _ _ => rfl)) (pe_ix ix_tup (pv 1) pe_int (fun _ _ => rfl)) (nomark _)))))))), ?_⟩
    by_cases hT : ∃ ds, d = .tuple ds
    · obtain ⟨ds, rfl⟩ := hT
      cases D with
      | @tup q xs _ nq hq hxs =>
      refine ⟨_, rfl, _, _, _, _, _, rfl, .ty _, .base (.tup hq), kit_ty (r := true) (by decide +kernel), true, rfl, iteF ?_⟩
      refine ⟨_, rfl, q, _, rfl, .inr (SqT.of hq), rfl, _, rfl, ?_⟩
      have hlen := hxs.len
      by_cases hd2 : ds.length = 2
      · obtain ⟨x, y, dx, dy, rfl, rfl, Dx1, Dx2⟩ := dx_two hxs hd2
        refine iteFb (by rfl) ?_
        refine ⟨_, rfl, _, rfl, q, _, _, _, rfl, rfl, SqT.of hq, atI_nat (j := 0) rfl, p, g, t, o, a0, gs, tl, x, dx, rfl, R, Dx1, fun H1 S1 => ?_⟩
        have e : isPairD gs tl (.tuple [dx, dy]) = (isAtt gs tl dx && (isAtt gs tl dy && decide (natD dx < natD dy))) := rfl
        rw [e] at k
        refine ⟨isAtt gs tl dx, rfl, ?_⟩
        cases h1 : isAtt gs tl dx with
        | false =>
          rw [h1] at k
          exact iteF (k H1 S1)
        | true =>
          rw [h1] at k
          refine iteT ?_
          refine ⟨_, rfl, _, rfl, q, _, _, _, rfl, rfl, SqT.of (S1 _ _ hq), atI_nat (j := 1) rfl, p, g, t, o, a0, gs, tl, y, dy, rfl, R.mono S1, Dx2.same S1, fun H2 S2 => ?_⟩
          refine ⟨isAtt gs tl dy, rfl, ?_⟩
          cases h2 : isAtt gs tl dy with
          | false =>
            rw [h2] at k
            exact iteF (k H2 (S1.trans S2))
          | true =>
            rw [h2] at k
            obtain ⟨n, rfl, _⟩ := isAtt_int h1
            obtain ⟨m, rfl, _⟩ := isAtt_int h2
            cases Dx1
            cases Dx2
            have hq2 := S2 _ _ (S1 _ _ hq)
            refine iteT ⟨_, rfl, q, _, _, _, rfl, rfl, SqT.of hq2, atI_nat (j := 0) rfl, _, rfl, q, _, _, _, rfl, rfl, SqT.of hq2, atI_nat (j := 1) rfl, _, _, rfl, rfl, ?_⟩
            have e3 : decide (((n : Nat) : Int) < ((m : Nat) : Int)) = (true && (true && decide (natD (.int (n : Int)) < natD (.int (m : Int))))) := by
              show _ = decide (((n : Nat) : Int).toNat < ((m : Nat) : Int).toNat)
              rw [Int.toNat_natCast, Int.toNat_natCast]
              exact decide_eq_decide.mpr (by omega)
            rw [← e3] at k
            exact k H2 (S1.trans S2)
      · refine iteTb ?_ ?_
        · show (!decide (V.int _ = V.int 2)) = true
          rw [decide_eq_false (fun e => hd2 (by have := V.int.inj e; omega))]
          rfl
        · have e : isPairD gs tl (.tuple ds) = false := by unfold isPairD; rw [two_len hd2]
          rw [e] at k
          exact k H (Same.refl H)
    · have hT' : ∀ ds, d ≠ .tuple ds := fun ds e => hT ⟨ds, e⟩
      refine ⟨_, rfl, _, _, _, _, _, rfl, .ty _, D.ty, kit_ty (r := false) (tup_no hT'), false, rfl, iteT ?_⟩
      have e : isPairD gs tl d = false := by unfold isPairD; rw [two_no hT']
      rw [e] at k
      exact k H (Same.refl H)
/-! ### _difference -/
def spDif (C : Addr) : Sp := fun vs H Q _ => ∃ (p g t o q : Addr) (gs : List Int) (tl : Tl) (i j : Nat), vs = [.ref p, .ref q] ∧ RuleAt C H p g t o gs tl ∧ H q = some (.tup [.int (i : Int), .int (j : Int)]) ∧ AttOk gs tl i ∧ AttOk gs tl j ∧ ∀ H', Same H H' → Q (.int (off gs tl j - off gs tl i)) H'
theorem scDif : FnScope ["rule", "pair"] ["rule", "pair"] (defScope s_difference) := ⟨rfl, rfl, rfl, by decide +kernel, rfl, by decide +kernel, by decide +kernel⟩
theorem ok_dif {f C fO : Addr} {fd fdO : FuncData} (F : Fun K "_difference" "_difference" s_difference f fd) (T : Txt K mg C)
    (mO : Meth K C "offset" fO) (bO : Binds K fdO ["self", "attempt"] []) (GO : FnOk P w K mg base CX0 4 fO fdO ["self", "attempt"] (spOff C)) : FnOk P w K mg base CX0 5 f fd ["rule", "pair"] (spDif C) := by
  refine F.ok scDif (fun vs H Q E h => ?_) (fun cdv A outer s H vs Q E hr h => ?_)
  · obtain ⟨p, g, t, o, q, gs, tl, i, j, rfl, _⟩ := h
    rfl
  · obtain ⟨p, g, t, o, q, gs, tl, i, j, rfl, R, hq, hi, hj, k⟩ := h
    refine ⟨_, (pss_one (ps_ret (pe_op op_sub (pe_meth (pv 0) T.cl mO GO hr bO .nil pass0 (pa_cons (pe_ix ix_tup (pv 1) pe_int (fun _ _ => rfl)) pa_nil)) (pe_meth (pv 0) T.cl mO GO hr bO .nil pass0 (pa_cons (pe_ix ix_tup (pv 1) pe_int (fun _ _ => rfl)) pa_nil))))), ?_⟩
    have nO : (flds g t o).lookup ("offset" : Str) = none := flds_no _ _ _ (by decide +kernel) (by decide +kernel) (by decide +kernel)
    obtain ⟨dx, hob⟩ := R.ob
    refine ⟨_, rfl, p, dx, _, rfl, hob, nO, _, rfl, q, _, _, _, rfl, rfl, SqT.of hq, atI_nat (j := 1) rfl, p, g, t, o, gs, tl, j, rfl, R, hj, fun H1 S1 => ?_⟩
    refine ⟨_, rfl, p, dx, _, rfl, S1 _ _ hob, nO, _, rfl, q, _, _, _, rfl, rfl, SqT.of (S1 _ _ hq), atI_nat (j := 0) rfl, p, g, t, o, gs, tl, i, rfl, R.mono S1, hi, fun H2 S2 => ?_⟩
    exact ⟨_, _, rfl, rfl, k H2 (S1.trans S2)⟩
/-! ### is_repetition -/
def spIsRep (C : Addr) : Sp := fun vs H Q _ => ∃ (p g t o a0 : Addr) (gs : List Int) (tl : Tl) (v : V) (d : PyData), vs = [.ref p, v] ∧ RuleAt C H p g t o gs tl ∧ Dx a0 H v d ∧ ∀ H', Same H H' → Q (.bl (isRepD gs tl d)) H'
theorem scIsRep : FnScope ["rule", "value", "one", "other"] ["rule", "value"] (defScope s_is_repetition) := ⟨rfl, rfl, rfl, by decide +kernel, rfl, by decide +kernel, by decide +kernel⟩
theorem ok_isRep {f C fP fD : Addr} {fd fdP fdD : FuncData} (F : Fun K "is_repetition" "is_repetition" s_is_repetition f fd) (T : Txt K mg C)
    (GP : FnOk P w K mg base CX0 6 fP fdP ["rule", "value"] (spIsPair C)) (bP : Binds K fdP ["rule", "value"] []) (mP : mg "_is_pair" = some (.ref fP)) (kP : PySem.W.keepIn K (.ref fP) = true)
    (GD : FnOk P w K mg base CX0 5 fD fdD ["rule", "pair"] (spDif C)) (bD : Binds K fdD ["rule", "pair"] []) (mD : mg "_difference" = some (.ref fD)) (kD : PySem.W.keepIn K (.ref fD) = true) : FnOk P w K mg base CX0 7 f fd ["rule", "value"] (spIsRep C) := by
  refine F.ok scIsRep (fun vs H Q E h => ?_) (fun cdv A outer s H vs Q E hr h => ?_)
  · obtain ⟨p, g, t, o, a0, gs, tl, v, d, rfl, _⟩ := h
    rfl
  · obtain ⟨p, g, t, o, a0, gs, tl, v, d, rfl, R, D, k⟩ := h
    have hr5 := hr.mono (show 5 ≤ 6 by decide)
    refine ⟨_, (pss_cons (ps_if (PW.pt (pw_or (pt_not (pt_val (pe_callB call_isi (by rfl) T.isi (by decide +kernel) (pa_cons (pv 1) (pa_cons (pe_bltn (v := .ty "tuple") (by rfl) T.tuple (by decide +kernel) rfl) pa_nil))))) (pw_or1 (pt_cmpR op_ne (pe_callB call_len_seq (by rfl) T.len (by decide +kernel) (pa_cons (pv 1) pa_nil)) pe_int (nomark _))))) (pss_one (ps_ret pe_bl)) pss_nil) (pss_cons (ps_asg (pv 1) (pg_tup rfl (pgs_cons (pg_name (i := 2) scIsRep.nd rfl (Or.inl rfl)) (pgs_cons (pg_name (i := 3) scIsRep.nd rfl (Or.inl rfl)) pgs_nil)))) (pss_cons (ps_if (PW.pt (pw_or (pt_not (pt_val (pe_call GP hr rfl mP kP bP .nil pass0 (pa_cons (pv 0) (pa_cons (pv 2) pa_nil))))) (pw_or1 (pt_not (pt_val (pe_call GP hr rfl mP kP bP .nil pass0 (pa_cons (pv 0) (pa_cons (pv 3) pa_nil)))))))) (pss_one (ps_ret pe_bl)) pss_nil) (pss_one (ps_ret (pe_and (pe_cmpR op_ne (pe_ix ix_tup (pv 2) pe_int (fun _ _ => rfl)) (pe_ix ix_tup (pv 3) pe_int (fun _ _ => rfl)) (nomark _)) (pe_one (pe_cmpR op_eq (pe_call GD hr5 rfl mD kD bD .nil pass0 (pa_cons (pv 0) (pa_cons (pv 2) pa_nil))) (pe_call GD hr5 rfl mD kD bD .nil pass0 (pa_cons (pv 0) (pa_cons (pv 3) pa_nil))) (nomark _))))))))), ?_⟩
    by_cases hT : ∃ ds, d = .tuple ds
    · obtain ⟨ds, rfl⟩ := hT
      cases D with
      | @tup q xs _ nq hq hxs =>
      refine ⟨_, rfl, _, _, _, _, _, rfl, .ty _, .base (.tup hq), kit_ty (r := true) (by decide +kernel), true, rfl, iteF ?_⟩
      refine ⟨_, rfl, q, _, rfl, .inr (SqT.of hq), rfl, _, rfl, ?_⟩
      have hlen := hxs.len
      by_cases hd2 : ds.length = 2
      · obtain ⟨x, y, dx, dy, rfl, rfl, Dx1, Dx2⟩ := dx_two hxs hd2
        refine iteFb (by rfl) ?_
        refine ⟨_, rfl, q, _, rfl, SqT.of hq, rfl, _, _, rfl, _, _, rfl, rfl, ?_⟩
        refine ⟨_, rfl, _, rfl, p, g, t, o, a0, gs, tl, x, dx, rfl, R, Dx1, fun H1 S1 => ?_⟩
        have e : isRepD gs tl (.tuple [dx, dy]) = (isPairD gs tl dx && (isPairD gs tl dy && (!decide (fstN dx = fstN dy) && decide (diffD gs tl dx = diffD gs tl dy)))) := rfl
        rw [e] at k
        refine ⟨isPairD gs tl dx, rfl, ?_⟩
        cases h1 : isPairD gs tl dx with
        | false =>
          rw [h1] at k
          exact iteT (k H1 S1)
        | true =>
          rw [h1] at k
          refine iteF ?_
          refine ⟨_, rfl, _, rfl, p, g, t, o, a0, gs, tl, y, dy, rfl, R.mono S1, Dx2.same S1, fun H2 S2 => ?_⟩
          refine ⟨isPairD gs tl dy, rfl, ?_⟩
          cases h2 : isPairD gs tl dy with
          | false =>
            rw [h2] at k
            exact iteT (k H2 (S1.trans S2))
          | true =>
            rw [h2] at k
            refine iteF ?_
            obtain ⟨i, j, rfl, hi, hj, _⟩ := isPair_of h1
            obtain ⟨i2, j2, rfl, hi2, hj2, _⟩ := isPair_of h2
            have S := S1.trans S2
            have Dx1 := Dx1.same S
            have Dx2 := Dx2.same S
            cases Dx1 with
            | @tup q1 xs1 _ _ hq1 h1s =>
            cases Dx2 with
            | @tup q2 xs2 _ _ hq2 h2s =>
            rcases h1s with _ | ⟨z1, _ | ⟨z3, _ | _⟩⟩
            cases z1
            cases z3
            rcases h2s with _ | ⟨z1, _ | ⟨z3, _ | _⟩⟩
            cases z1
            cases z3
            refine ⟨_, rfl, q1, _, _, _, rfl, rfl, SqT.of hq1, atI_nat (j := 0) rfl, _, rfl, q2, _, _, _, rfl, rfl, SqT.of hq2, atI_nat (j := 0) rfl, rfl, _, rfl, ?_⟩
            have e1 : (!decide (V.int (i : Int) = V.int (i2 : Int))) = !decide (i = i2) := by
              congr 1
              exact decide_eq_decide.mpr ⟨fun e => by have := V.int.inj e; omega, fun e => by rw [e]⟩
            have ek : (true && (true && (!decide (fstN (.tuple [.int (i : Int), .int (j : Int)]) = fstN (.tuple [.int (i2 : Int), .int (j2 : Int)])) && decide (diffD gs tl (.tuple [.int (i : Int), .int (j : Int)]) = diffD gs tl (.tuple [.int (i2 : Int), .int (j2 : Int)]))))) = (!decide (i = i2) && decide (off gs tl j - off gs tl i = off gs tl j2 - off gs tl i2)) := by
              simp only [Bool.true_and, fstN, sndN, diffD, twoD, natD, Int.toNat_natCast]
              first | rfl | (congr 1 <;> first | rfl | (congr 1 <;> exact decide_eq_decide.mpr Iff.rfl) | exact decide_eq_decide.mpr Iff.rfl)
            rw [ek] at k
            rw [e1]
            cases hn : decide (i = i2) with
            | true =>
              rw [hn] at k
              exact iteF (k H2 S)
            | false =>
              rw [hn] at k
              refine iteT ?_
              refine ⟨_, rfl, _, rfl, p, g, t, o, q1, gs, tl, i, j, rfl, R.mono S, hq1, hi, hj, fun H3 S3 => ?_⟩
              refine ⟨_, rfl, _, rfl, p, g, t, o, q2, gs, tl, i2, j2, rfl, (R.mono S).mono S3, S3 _ _ hq2, hi2, hj2, fun H4 S4 => ⟨rfl, ?_⟩⟩
              have e4 : decide (V.int (off gs tl j - off gs tl i) = V.int (off gs tl j2 - off gs tl i2)) = (!false && decide (off gs tl j - off gs tl i = off gs tl j2 - off gs tl i2)) := by
                show _ = decide _
                exact decide_eq_decide.mpr ⟨fun e => V.int.inj e, fun e => by rw [e]⟩
              rw [e4]
              exact k H4 ((S.trans S3).trans S4)
      · refine iteTb ?_ ?_
        · show (!decide (V.int _ = V.int 2)) = true
          rw [decide_eq_false (fun e => hd2 (by have := V.int.inj e; omega))]
          rfl
        · have e : isRepD gs tl (.tuple ds) = false := by unfold isRepD; rw [two_len hd2]
          rw [e] at k
          exact k H (Same.refl H)
    · have hT' : ∀ ds, d ≠ .tuple ds := fun ds e => hT ⟨ds, e⟩
      refine ⟨_, rfl, _, _, _, _, _, rfl, .ty _, D.ty, kit_ty (r := false) (tup_no hT'), false, rfl, iteT ?_⟩
      have e : isRepD gs tl d = false := by unfold isRepD; rw [two_no hT']
      rw [e] at k
      exact k H (Same.refl H)
end
end RS
namespace RS
open PySem L2
/-- statements that are never reached -/
def tNever : TS := fun _ _ _ => False
theorem pss_never {X : Cx} {ss : List Stmt} : PSs X ss tNever := ⟨fun _ _ _ _ _ _ h => h.elim⟩
section
variable {P : Program} {w : World} {K : PySem.W.Frag} {mg : Str → Option Value} {base : Heap}
/-! ### distances and limits that are refused (k20) -/
def BadN (K : PySem.W.Frag) (H : Hp) (lo : Int) (x : V) : Prop := OddV K H x ∨ ∃ i, x = .int i ∧ i < lo
def spCkDR (K : PySem.W.Frag) (CS : Addr) : Sp := fun vs H _ E => ∃ x : V, vs = [x] ∧ BadN K H 1 x ∧ Out H E CS "slot" x
theorem scCkDR : FnScope ["distance"] ["distance"] (defScope s_check_distance) := ⟨rfl, rfl, rfl, by decide +kernel, rfl, by decide +kernel, by decide +kernel⟩
theorem ok_ckDR {f C CS fE fI : Addr} {fd fdI : FuncData} (F : Fun K "_check_distance" "_check_distance" s_check_distance f fd) (T : Txt K mg C) (X : ErX.ErTxt K mg "InvalidSlot" "InvalidSlot.__init__" "slot" CS fE)
    (GI : FnOk P w K mg base CX0 1 fI fdI ["value"] (spIsAny K)) (bI : Binds K fdI ["value"] []) (mI : mg "is_integer" = some (.ref fI)) (kI : PySem.W.keepIn K (.ref fI) = true) : FnOk P w K mg base (L2.CX P w) 3 f fd ["distance"] (spCkDR K CS) := by
  refine F.okX scCkDR (fun vs H Q E h => ?_) (fun cdv A outer s H vs Q E hr h => ?_)
  · obtain ⟨x, rfl, _⟩ := h
    rfl
  · obtain ⟨x, rfl, hb, out⟩ := h
    have hr1 := hr.mono (show 1 ≤ 2 by decide)
    refine ⟨_, (pss_one (ps_if (PW.pt (pw_or (pt_not (pt_val (pe_call GI hr1 rfl mI kI bI .nil pass0 (pa_cons (pv 0) pa_nil)))) (pw_or1 (pt_cmpR op_lt (pv 0) pe_int (nomark _))))) (pss_one (ps_raiseEr rfl X hr (takes_of rfl rfl rfl rfl) (pa_cons (pv 0) pa_nil))) pss_nil)), ?_⟩
    rcases hb with hb | ⟨i, rfl, hi⟩
    · exact ⟨_, rfl, _, rfl, .inr ⟨hb, false, rfl, iteT ⟨_, rfl, _, rfl, out_of out⟩⟩⟩
    · refine ⟨_, rfl, _, rfl, .inl ⟨i, rfl, true, rfl, iteF ?_⟩⟩
      exact ⟨_, rfl, _, _, rfl, rfl, _, rfl, iteTb (decide_eq_true hi) ⟨_, rfl, _, rfl, out_of out⟩⟩
def spCbR (K : PySem.W.Frag) (CB : Addr) : Sp := fun vs H _ E => ∃ (s : Str) (x : V) (lo : Int), vs = [.str s, x, .int lo, .non] ∧ BadN K H lo x ∧ Out H E CB "part" (.str s)
theorem ok_cbR {f C CB fE fI : Addr} {fd fdI : FuncData} (F : Fun K "check_bound" "check_bound" s_check_bound f fd) (T : Txt K mg C) (X : ErX.ErTxt K mg "InvalidBound" "InvalidBound.__init__" "part" CB fE)
    (GI : FnOk P w K mg base CX0 1 fI fdI ["value"] (spIsAny K)) (bI : Binds K fdI ["value"] []) (mI : mg "is_integer" = some (.ref fI)) (kI : PySem.W.keepIn K (.ref fI) = true) : FnOk P w K mg base (L2.CX P w) 3 f fd ["part", "value", "low", "high"] (spCbR K CB) := by
  refine F.okX scCb (fun vs H Q E h => ?_) (fun cdv A outer s H vs Q E hr h => ?_)
  · obtain ⟨z, x, lo, rfl, _⟩ := h
    rfl
  · obtain ⟨z, x, lo, rfl, hb, out⟩ := h
    have hr1 := hr.mono (show 1 ≤ 2 by decide)
    refine ⟨_, (pss_cons (ps_if (pt_not (pt_val (pe_call GI hr1 rfl mI kI bI .nil pass0 (pa_cons (pv 1) pa_nil)))) (pss_one (ps_raiseEr rfl X hr (takes_of rfl rfl rfl rfl) (pa_cons (pv 0) pa_nil))) pss_nil) (pss_one (ps_if (PW.pt (pw_or (PW.pt (pw_and (pt_cmpR op_notN (pv 2) pe_non (nomark _)) (pw_and1 (pt_cmpR op_lt (pv 1) (pv 2) (nomark _))))) (pw_or1 (PW.pt (pw_and (pt_cmpR op_notN (pv 3) pe_non (nomark _)) (pw_and1 (pt_cmpR op_gt (pv 1) (pv 3) (nomark _)))))))) (pss_one (ps_raiseEr rfl X hr (takes_of rfl rfl rfl rfl) (pa_cons (pv 0) pa_nil))) pss_nil))), ?_⟩
    rcases hb with hb | ⟨i, rfl, hi⟩
    · exact ⟨_, rfl, _, rfl, .inr ⟨hb, false, rfl, iteT ⟨_, rfl, _, rfl, out_of out⟩⟩⟩
    · refine ⟨_, rfl, _, rfl, .inl ⟨i, rfl, true, rfl, iteF ?_⟩⟩
      refine ⟨_, rfl, rfl, _, rfl, iteTb rfl ?_⟩
      exact ⟨_, rfl, _, rfl, _, _, rfl, rfl, _, rfl, iteTb (decide_eq_true hi) ⟨_, rfl, _, rfl, out_of out⟩⟩
/-- a call that is refused by its check -/
def spDisR (K : PySem.W.Frag) (CS : Addr) : Sp := fun vs H _ E => ∃ (p : V) (x : V), vs = [p, x] ∧ BadN K H 1 x ∧ Out H E CS "slot" x
theorem ok_sgR {f C CS fC : Addr} {fd fdC : FuncData} (F : Fun K "shared_attempts" "shared_attempts" s_shared_attempts f fd) (T : Txt K mg C)
    (GC : FnOk P w K mg base (L2.CX P w) 3 fC fdC ["distance"] (spCkDR K CS)) (bC : Binds K fdC ["distance"] []) (mC : mg "_check_distance" = some (.ref fC)) (kC : PySem.W.keepIn K (.ref fC) = true) : FnOk P w K mg base (L2.CX P w) 4 f fd ["rule", "distance"] (spDisR K CS) := by
  refine F.okX scSg (fun vs H Q E h => ?_) (fun cdv A outer s H vs Q E hr h => ?_)
  · obtain ⟨p, x, rfl, _⟩ := h
    rfl
  · obtain ⟨p, x, rfl, hb, out⟩ := h
    refine ⟨_, pss_cons (ps_expr (pe_call (E := E) GC hr rfl mC kC bC .nil (passUp (takes_of rfl rfl rfl rfl)) (pa_cons (pv 1) pa_nil))) pss_never, ?_⟩
    exact ⟨_, rfl, x, rfl, hb, out⟩
theorem ok_ndR {f C CS fC : Addr} {fd fdC : FuncData} (F : Fun K "next_distance" "next_distance" s_next_distance f fd) (T : Txt K mg C)
    (GC : FnOk P w K mg base (L2.CX P w) 3 fC fdC ["distance"] (spCkDR K CS)) (bC : Binds K fdC ["distance"] []) (mC : mg "_check_distance" = some (.ref fC)) (kC : PySem.W.keepIn K (.ref fC) = true) : FnOk P w K mg base (L2.CX P w) 4 f fd ["rule", "distance"] (spDisR K CS) := by
  refine F.okX scNd (fun vs H Q E h => ?_) (fun cdv A outer s H vs Q E hr h => ?_)
  · obtain ⟨p, x, rfl, _⟩ := h
    rfl
  · obtain ⟨p, x, rfl, hb, out⟩ := h
    refine ⟨_, pss_cons (ps_expr (pe_call (E := E) GC hr rfl mC kC bC .nil (passUp (takes_of rfl rfl rfl rfl)) (pa_cons (pv 1) pa_nil))) pss_never, ?_⟩
    exact ⟨_, rfl, x, rfl, hb, out⟩
def spLimR (K : PySem.W.Frag) (CB : Addr) : Sp := fun vs H _ E => ∃ (p : V) (x : V), vs = [p, x] ∧ BadN K H 0 x ∧ Out H E CB "part" (.str "limit")
theorem ok_cdR {f C CB fC : Addr} {fd fdC : FuncData} (F : Fun K "count_distances" "count_distances" s_count_distances f fd) (T : Txt K mg C)
    (GC : FnOk P w K mg base (L2.CX P w) 3 fC fdC ["part", "value", "low", "high"] (spCbR K CB)) (bC : Binds K fdC ["part", "value", "low", "high"] []) (mC : mg "check_bound" = some (.ref fC)) (kC : PySem.W.keepIn K (.ref fC) = true) : FnOk P w K mg base (L2.CX P w) 4 f fd ["rule", "limit"] (spLimR K CB) := by
  refine F.okX scCd (fun vs H Q E h => ?_) (fun cdv A outer s H vs Q E hr h => ?_)
  · obtain ⟨p, x, rfl, _⟩ := h
    rfl
  · obtain ⟨p, x, rfl, hb, out⟩ := h
    refine ⟨_, pss_cons (ps_expr (pe_call (E := E) GC hr rfl mC kC bC .nil (passUp (takes_of rfl rfl rfl rfl)) (pa_cons pe_str (pa_cons (pv 1) (pa_cons pe_int (pa_cons pe_non pa_nil)))))) pss_never, ?_⟩
    exact ⟨_, rfl, _, x, 0, rfl, hb, out⟩
end
end RS
namespace RS
open PySem L2
/-! ### two arguments by name, in the other order (k20) -/
theorem kb_swap {K : PySem.W.Frag} {x qual : Str} {st : Stmt} {f : Addr} {fd : FuncData} {ps ks : List Str} (F : Fun K x qual st f fd)
    (h : ∀ (kV doc pm : Value) (an : Option Addr) (cdv ct v1 v2 : Value), bindArgs (PySem.W.fnOf x qual (defArgs st) (defBody st) (defScope st) .none kV doc pm an cdv ct) ⟨[], ks.zip [v1, v2]⟩ = pure (ps.zip [v2, v1])) (hk : ks.length = 2) :
    KBn K fd ps 0 ks (fun us ws => us ++ ws.reverse) (fun vs zs => vs ++ zs.reverse) := by
  obtain ⟨oc, od, kV, doc, pm, an, cdv, ct, osl, rfl, lk, hcd⟩ := F.ex
  refine ⟨fun s us ws _ l1 l2 => .of_eq ?_, fun r1 r2 => r1.append r2.reverse⟩
  rw [hk] at l2
  match us, ws, l1, l2 with
  | [], [v1, v2], _, _ => exact h kV doc pm an cdv ct v1 v2
end RS
namespace Odd
open PySem PySem.Spec PyProof.Rows PySem.SeqAt MeetsSeq AutoSeq1 PySem.Calls PyProof.V
/-- what a dict says of a number, and a number of a dict -/
theorem num_of_dict (l : Addr) (es : Array DictEntry) (n : Nat) (dd : Option Addr) (sl : Array (Option Value)) (i : Int) (t : Tok) :
    Meets (Builtin.«int.__ne__» ⟨[.int i t, .ref l], []⟩) (fun _ R s => s.heap.get? l = some { cls := .type "dict", dict := dd, data := .dict es n, slots := sl } ∧ R (.ok (.ret .notImplemented)) s) :=
  .of_wp fun _ _ _ R s k => by
    obtain ⟨at_, r⟩ := k
    obtain ⟨hp, g, d, tk, os⟩ := s
    wp_walk using wpAny_loadPart' at_, wpAny_load at_
    exact ⟨_, rfl, r⟩
section
variable {prog : Program} {w : World} {K : Type} [DecidableEq K] {knd : KeyKind prog w K} {A : Around} {E : Value → Shared → Prop} {s : Shared}
theorem dict_ne_num {d : Addr} {kvs : List (K × Value)} {i : Int} {t : Tok} {Q : Value → Shared → Prop} (D : s.heap.DictOf knd d kvs) (room : A.units < cLine) (q : Q (.bool true) s) :
    wpAny (model prog w) A (compareOp .NotEq (.ref d) (.int i t)) Q E s := by
  obtain ⟨o, es, ep, ho, hc, hdt, _⟩ := id D
  obtain ⟨cls, dd, data, sl⟩ := o
  have hc2 : cls = .type "dict" := hc.1
  dsimp only at hdt
  subst hc2 hdt
  refine rc_ne_decline_or (k := false) D.typeIs (typeIs_int s i t) (by decide) F.sub_int_dict F.slot_dict_ne F.slot_int_ne_refl (fun Q' q' => ?_)
    (fun Q' q' => call_meets F.slot_int_ne_refl (typeIs_int s i t) F.entry_int_ne (F.args_int_ne_2 _ _) (num_of_dict d es ep dd sl i t) ⟨ho, q'⟩)
    (fun _ z => wpAny_of_eq (rfl : isSame (.ref d) (.int i t) = pure false) z) (.inr room) q
  refine wpAny_call_entry F.slot_dict_ne D.typeIs F.entry_dict_ne ?_ (F.args_dict_ne_2 _ _)
  show wpAny _ _ (Builtin.Dict.dictSlotArgs "__ne__" ⟨[.ref d, .int i t], []⟩ >>= _) _ _ s
  refine wpAny_bind ?_
  unfold Builtin.Dict.dictSlotArgs
  refine wpAny_bind (wpAny_notOrdered_dict D.typeIs ?_)
  show wpAny _ _ (pure (Value.ref d, Value.int i t)) _ _ s
  refine wpAny_pure (wpAny_bind (wpAny_isInstance (T := "int") (typeIs_int s i t) F.sub_int_dict ?_))
  simp only [Bool.not_false, if_true]
  exact wpAny_bind (wpAny_rule (wpAny_pure ⟨_, rfl, q'⟩))
end
end Odd
namespace Odd
open PySem PySem.Spec PyProof.Rows L2
/-- a value of any kind that a list can hold, held against 0 -/
def rNeZ (K : PySem.W.Frag) : R2 := fun x y H Q => y = .int 0 ∧ ((∃ d, Dp K H x d ∧ SeqAt.shaped d = true ∧ Q (.bl (!PyData.eqv d (.int 0))) H) ∨ ∃ a kvs, x = .ref a ∧ H a = some (.dK kvs) ∧ Q (.bl true) H)
/-- what a value may be that is held against itself -/
def Plain : V → Prop
  | .non | .bl _ | .int _ | .str _ | .ref _ => True
  | _ => False
/-- two lists with the same values -/
def rNeS (K : PySem.W.Frag) : R2 := fun x y H Q => ∃ a b xs, x = .ref a ∧ y = .ref b ∧ SqL K H a xs ∧ SqL K H b xs ∧ (∀ v ∈ xs, Plain v) ∧ Q (.bl false) H
section
variable {X : Cx}
theorem op_neZ (hu : X.A.units + 64 < cLine) : OpR X (compareOp .NotEq) (rNeZ X.K) := by
  intro pins s σ H x y v u Q I rx ry h
  obtain ⟨rfl, h⟩ := h
  rcases h with ⟨d, hd, sd, q⟩ | ⟨a, kvs, rfl, ha, q⟩
  · exact op_neD hu pins s σ H x (.int 0) v u Q I rx ry ⟨d, .int 0, hd, .int 0, sd, rfl, q⟩
  · obtain rfl : v = Value.ref a := rx
    obtain ⟨t, rfl⟩ := ry
    obtain ⟨_, _, _, _, dof⟩ := (I.hok a _ ha : ObjOk X.prog X.w H s.heap a (.dK kvs))
    exact dict_ne_num dof (by omega) ⟨.bl true, H, I, rfl, q⟩
theorem eq_self {A : Around} {s : Shared} : ∀ {v : V} {u u' : Value}, Plain v → RelV v u → RelV v u' → SeqAt.EqAt A s u u' true
  | .non, _, _, _, a, b => by cases a; cases b; exact .same _
  | .bl _, _, _, _, a, b => by cases a; cases b; exact .same _
  | .ref _, _, _, _, a, b => by cases a; cases b; exact .same _
  | .int i, _, _, _, a, b => by
    obtain ⟨t, rfl⟩ := a
    obtain ⟨t', rfl⟩ := b
    have e := SeqAt.EqAt.int_int (A := A) (s := s) i t i t'
    rwa [beq_self_eq_true] at e
  | .str x, _, _, _, a, b => by
    obtain ⟨t, rfl⟩ := a
    obtain ⟨t', rfl⟩ := b
    have e := SeqAt.EqAt.str_str (A := A) (s := s) x t x t'
    rwa [beq_self_eq_true] at e
theorem op_neS (hu : X.A.units + 64 < cLine) : OpR X (compareOp .NotEq) (rNeS X.K) := by
  intro pins s σ H x y v u Q I rx ry h
  obtain ⟨a, b, xs, rfl, rfl, ha, hb, pl, q⟩ := h
  cases rx
  cases ry
  obtain ⟨us, r1, h1, _⟩ := I.list ha
  obtain ⟨ws, r2, h2, _⟩ := I.list hb
  have l1 := r1.length
  have l2 := r2.length
  have k := SeqAt.RcNeAt.lists (A := X.A) (e := fun _ => true) h1.isList h2.isList (by rw [List.size_toArray, List.size_toArray]; omega) (by omega) fun j j1 j2 => by
    rw [List.size_toArray] at j1 j2
    have e0 : xs[j]? = some xs[j] := List.getElem?_eq_getElem (by omega)
    obtain ⟨u1, e1, q1⟩ := r1.get e0
    obtain ⟨u2, e2, q2⟩ := r2.get e0
    obtain ⟨_, e1⟩ := List.getElem?_eq_some_iff.mp e1
    obtain ⟨_, e2⟩ := List.getElem?_eq_some_iff.mp e2
    rw [List.getElem_toArray, List.getElem_toArray, e1, e2]
    exact eq_self (pl _ (List.getElem_mem _)) q1 q2
  have al : (!(List.range us.toArray.size).all fun _ => true) = false := by simp
  rw [al] at k
  exact k X.prog X.w _ _ ⟨.bl false, H, I, rfl, q⟩
end
end Odd
/-! ### try with several clauses, some of which name the error -/
namespace Many
open PySem PySem.Spec PyProof.Rows L2 Two
abbrev Told := Addr → Value → Option Addr → TS
/-- the ends behind a suite whose name then goes -/
def gone (D : Ends) (i : Nat) : Ends where
  nx := fun σ => D.nx (σ.set i none)
  bk := fun σ => D.bk (σ.set i none)
  ct := fun σ => D.ct (σ.set i none)
  rt := D.rt
/-- a suite is entered: under a name, or without one -/
def enter : Option Nat → TS → Addr → TS
  | none, t, _ => t
  | some i, t, a => fun D σ H => t (gone D i) (σ.set i (some (.ref a))) H
def wEach (K : PySem.W.Frag) (Wout : WX) (D : Ends) : List (Value × Option Nat × Told) → WX
  | [] => Wout
  | k :: r => fun cls d σ H => ∃ b, PySem.W.exmOne K cls k.1 = some b ∧ (b = false → wEach K Wout D r cls d σ H) ∧ (b = true → ∀ a, H a = none → enter k.2.1 (k.2.2 a cls d) a D σ H)
inductive Each (X : Cx) : List ExceptHandler → List (Value × Option Nat × Told) → Prop
  | nil : Each X [] []
  | bare {z : Str} {c : Value} {t : Told} {st : Stmt} {sts : List Stmt} {p q : Pos} {hds : List ExceptHandler} {l : List (Value × Option Nat × Told)} (n : Names X z c)
      (ok : ∀ a oe cls d pn, Zc cls d oe → (∃ vs, oe.data = .fields vs) → PSs (X.suite a ((a, oe) :: pn)) (st :: sts) (t a cls d)) (r : Each X hds l) :
      Each X (.ExceptHandler (some (.Name z p)) none (st :: sts) q :: hds) ((c, none, t) :: l)
  | named {z m : Str} {i : Nat} {c : Value} {t : Told} {st : Stmt} {sts : List Stmt} {p q : Pos} {hds : List ExceptHandler} {l : List (Value × Option Nat × Told)} (n : Names X z c) (im : X.N[i]? = some m) (lm : X.env.kindOf m = some .local)
      (ok : ∀ a oe cls d pn, Zc cls d oe → (∃ vs, oe.data = .fields vs) → PSs (X.suite a ((a, oe) :: pn)) (st :: sts) (t a cls d)) (r : Each X hds l) :
      Each X (.ExceptHandler (some (.Name z p)) (some m) (st :: sts) q :: hds) ((c, some i, t) :: l)
section
variable {X : Cx} {pins p0 : List (Addr × Obj)} {σ0 : L2.St} {H0 : Hp} {s0 : Shared} {D : Ends}
/-- an exception in flight over the state J, before these clauses -/
theorem clauses {B : Heap} {a : Addr} {cls : Value} {d : Option Addr} {σ : L2.St} {H : Hp} {sI s : Shared} {Wout : WX} (hs : X.stack = X.env :: X.outer) (hf : X.env.frame = some X.env.locals) (hN : X.N.Nodup) (tk : Takes X Wout)
    (J : Inv X pins σ H sI) (nb : ∀ b o, sI.heap.get? b = some o → b ∉ frs X.stack → B.get? b = some o) (os : s.os = sI.os) (ag : AllBare s.gens) (na : H a = none)
    (F : HandSPX.FlyingZ B (X.env :: X.outer) a (Zc cls d) s.heap) (up : sI.heap.UpToSlots s.heap) {hds : List ExceptHandler} {l : List (Value × Option Nat × Told)} (C : Each X hds l) :
    wEach X.K Wout D l cls d σ H → wpAny (model X.prog X.w) X.A (handleBy (.ref a) X.env hds) (SP X pins D) X.xe s := by
  have at' : ∀ {h2 : Heap}, HandSPX.FlyingZ B (X.env :: X.outer) a (Zc cls d) h2 → sI.heap.UpToSlots h2 → ∃ oe vs, h2.get? a = some oe ∧ Zc cls d oe ∧ oe.data = .fields vs ∧ Inv (X.suite a ((a, oe) :: (X.pn ++ pins))) [] σ H { s with heap := h2 } := fun F2 u2 => by
    have ⟨oe, vs, he, hz, hd⟩ := F2.there
    have ⟨n1, n2⟩ := off_stack F2.2.2.1 he hd hf
    exact ⟨oe, vs, he, hz, hd, (J.landed (s' := { s with heap := _ }) nb F2.1 u2 os ag).suite he hd na n1 n2⟩
  induction C with
  | nil =>
    intro w
    -- it flies on
    refine wpAny_handleBy_nil ?_
    have ⟨_, _, _, oe2, _, V, _, _, he2, _, hd2, hV, _⟩ := F
    unfold PySem.passOn
    refine wpAny_bind (wpAny_field he2 hd2 hV ?_)
    rw [if_neg (by simp)]
    have on : wpAny (model X.prog X.w) X.A (setFlight (.ref a) X.env.frame) (fun _ s4 => wpAny (model X.prog X.w) X.A (throw (.ref a) : Sem Flow) (SP X pins D) X.xe s4) X.xe s := by
      rw [hf]
      exact HandSPX.setFlight_upZ F fun _ hh u => wpAny_throw (tk _ _ ⟨a, B, sI, pins, σ, H, cls, d, rfl, J, nb, up.trans u, .inr (.inr (hs ▸ hh)), na, os, ag, w⟩)
    first
      | exact wpAny_bind (wpAny_pure (wpAny_bind on))
      | exact wpAny_bind on
  | bare n ok r ih =>
    rintro ⟨b, hb, no, yes⟩
    have ⟨oe, vs, he, hz, hd, S⟩ := at' F up
    refine wpAny_handleBy_cons (codeAny_handlers_test (name_at (X := X.suite a ((a, oe) :: (X.pn ++ pins))) S n ?_)) fun z => nomatch z
    refine (PySem.W.exm_one (M := model X.prog X.w) S.kIn (fun _ _ _ _ le q => wpAny_typeOf_ref (le _ _ he) (hz.1.symm ▸ q)) hb).here ?_
    cases b with
    | false => exact ih (no rfl)
    | true =>
      refine codeAny_handlers_suite (HandSPX.lands_againZ F fun h4 F4 u4 => ?_)
      have ⟨oe4, vs4, he4, hz4, hd4, S4⟩ := at' F4 (up.trans u4)
      exact wpAny_mono ((ok a oe4 cls d (X.pn ++ pins) hz4 ⟨_, hd4⟩).run [] _ _ H _ S4 (yes rfl a na)) (suite_back J) fun _ _ z => z.elim
  | @named z m i c t st sts p q hds l n im lm ok r ih =>
    rintro ⟨b, hb, no, yes⟩
    have ⟨oe, vs, he, hz, hd, S⟩ := at' F up
    refine wpAny_handleBy_cons (codeAny_handlers_test (name_at (X := X.suite a ((a, oe) :: (X.pn ++ pins))) S n ?_)) fun z => nomatch z
    refine (PySem.W.exm_one (M := model X.prog X.w) S.kIn (fun _ _ _ _ le q => wpAny_typeOf_ref (le _ _ he) (hz.1.symm ▸ q)) hb).here ?_
    cases b with
    | false => exact ih (no rfl)
    | true =>
      refine codeAny_handlers_suite_as (HandSPX.lands_againZ F fun h4 F4 u4 => ?_)
      have ⟨oe4, vs4, he4, hz4, hd4, S4⟩ := at' F4 (up.trans u4)
      refine store_ok (X := X.suite a ((a, oe4) :: (X.pn ++ pins))) (v := .ref a) S4 hN im (.inl lm) rfl (fun s5 S5 => ?_) (.inr lm)
      refine wpAny_mono ((ok a oe4 cls d (X.pn ++ pins) hz4 ⟨_, hd4⟩).run [] s5 _ H _ S5 (yes rfl a na)) (fun f s6 r6 => ?_) fun _ _ z => z.elim
      have r6 := suite_back J f s6 r6
      -- the name goes
      cases f with
      | next => exact let ⟨_, _, J6, k6⟩ := r6; gone_ok J6 hN im lm fun _ J7 => ⟨_, _, J7, k6⟩
      | brk => exact let ⟨_, _, J6, k6⟩ := r6; gone_ok J6 hN im lm fun _ J7 => ⟨_, _, J7, k6⟩
      | cont => exact let ⟨_, _, J6, k6⟩ := r6; gone_ok J6 hN im lm fun _ J7 => ⟨_, _, J7, k6⟩
      | ret u => exact let ⟨_, _, _, J6, v6, k6⟩ := r6; gone_ok J6 hN im lm fun _ J7 => ⟨_, _, _, J7, v6, k6⟩
theorem ps_try_each {body : List Stmt} {h₀ : ExceptHandler} {hds : List ExceptHandler} {l : List (Value × Option Nat × Told)} {pos : Pos} {tb : WX → TS} {Wout : WX} (hs : X.stack = X.env :: X.outer) (hf : X.env.frame = some X.env.locals) (hN : X.N.Nodup) (tk : Takes X Wout)
    (hb : ∀ (W : WX) (pn : List (Addr × Obj)) (xe : Value → Shared → Prop), Takes (X.tr pn xe) W → PassesOwn (model X.prog X.w) X.A X.env xe → PSs (X.tr pn xe) body (tb W))
    (C : Each X (h₀ :: hds) l) : PS X (.Try body (h₀ :: hds) [] [] pos) (fun D σ H => tb (wEach X.K Wout D l) D σ H) := by
  constructor
  intro pins s σ H D I h
  let xe : Value → Shared → Prop := fun e s₁ => wpAny (model X.prog X.w) X.A (noteFrame e X.env) (fun _ s₂ => wpAny (model X.prog X.w) X.A (setFlight e none) (fun _ s₃ => wpAny (model X.prog X.w) X.A (handleBy e X.env (h₀ :: hds)) (SP X pins D) X.xe s₃) X.xe s₂) X.xe s₁
  have fr : X.A.frames = some (X.env :: X.outer) := I.ok.frames.trans (congrArg some hs)
  have tk2 : Takes (X.tr (X.pn ++ pins) xe) (wEach X.K Wout D l) := by
    rintro u s' ⟨a, B, sI, p', σ', H', cls, d, rfl, J', nb, up, sky, na, os, ag, w⟩
    have J : Inv X pins σ' H' sI := J'.ofTry I.ok
    refine Sky.land Zc.steady fr hf (show Sky B (X.env :: X.outer) a (Zc cls d) X.env.locals s'.heap from hs ▸ sky) fun h3 F3 u3 => ?_
    exact clauses (s := { s' with heap := h3 }) hs hf hN tk J nb os ag na F3 (up.trans u3) C w
  refine wpAny_Try_except (wpAny_mono ((hb _ (X.pn ++ pins) xe tk2 PassesOwn.looking).run [] s σ H D (I.toTry _) h) (fun f s1 r => ?_) fun _ _ z => z)
  have r := body_back I f s1 r
  cases f with
  | next => exact wpAny_execs_nil r
  | _ => exact r
end
end Many
/-! ### a def that calls what it got, with several clauses (k20) -/
namespace Many
open PySem PySem.Spec PyProof.Rows L2 LamX
section
variable {X : Cx}
/-- told: a statement / try: a() / the clauses / rest -/
def TEach (K : PySem.W.Frag) (Ng : List Str) (l : Shared → Hp → List (Value × Option Nat × Told)) (tr : TS) (σ1 : Addr → L2.St) : (XK → Hp → VK → Prop) → Hp → VK → Prop := fun tl H Q => ∀ (s : Shared) (f : Addr), ∃ Ech : XK,
  (∀ cls d (σ' : L2.St) H', Ech cls d H' → σ'.length = Ng.length → wEach K (fun _ _ _ _ => False) { nx := fun σ2 H2 => tr { nx := fun _ H3 => Q .non H3, rt := Q } σ2 H2, rt := Q } (l s H) cls d σ' H') ∧
    tl Ech H (fun _ H' => tr { nx := fun _ H3 => Q .non H3, rt := Q } (σ1 f) H')
theorem each_gives {Ng : List Str} {x a q : Str} {sg : Scope} {g : Addr} {cdg : Value} {p1 p2 p3 p6 : Pos} {first : Stmt} {h₀ : ExceptHandler} {hds : List ExceptHandler} {rest : List Stmt} {σ1 : Addr → L2.St} {l : Shared → Hp → List (Value × Option Nat × Told)} {tr tp : TS}
    (hN : Ng.Nodup) (hp : ∀ (s : Shared) (H : Hp), PS (cxOf C8.CX0 X.prog X.w X.K X.mg X.base Ng x sg g cdg X.A X.stack s H C8.E0).nox first tp) (hσ : ∀ f D H', D.nx (σ1 f) H' → tp D (L2.start Ng [.ref f]) H') (h0 : ∀ f, (σ1 f)[0]? = some (some (.ref f)))
    (hC : ∀ (s : Shared) (H : Hp), Each (cxOf C8.CX0 X.prog X.w X.K X.mg X.base Ng x sg g cdg X.A X.stack s H C8.E0).nox (h₀ :: hds) (l s H)) (hre : ∀ (s : Shared) (H : Hp), PSs (cxOf C8.CX0 X.prog X.w X.K X.mg X.base Ng x sg g cdg X.A X.stack s H C8.E0).nox rest tr)
    (hsw : ∀ (s : Shared) (H : Hp) (pn : List (Addr × Obj)) (xe : Value → Shared → Prop), swapsWith (.Call (.Name a p1) [] [] p2) none p3.line ((cxOf C8.CX0 X.prog X.w X.K X.mg X.base Ng x sg g cdg X.A X.stack s H C8.E0).nox.tr pn xe).env = pure false := by intros; rfl) :
    GivesTo X Ng x sg g cdg (first :: .Try [.Expr (.Call (.Name a p1) [] [] p2) p3] (h₀ :: hds) [] [] p6 :: rest) a q (TEach X.K Ng l tr σ1) := by
  intro f c' s H Q tl act hc h
  obtain ⟨Ech, hW, ht⟩ := h s f
  refine ⟨_, pss_cons (hp s H) (pss_cons (ps_try_each (X := (cxOf C8.CX0 X.prog X.w X.K X.mg X.base Ng x sg g cdg X.A X.stack s H C8.E0).nox)
      (tb := fun W D σ H => ∃ Ech : XK, (∀ cls d (σ' : L2.St) H', Ech cls d H' → σ'.length = Ng.length → W cls d σ' H') ∧ σ[0]? = some (some (.ref f)) ∧ H c' = some (CodeO c' q) ∧ tl Ech H (fun _ H' => D.nx σ H'))
      rfl rfl hN LamX.takes0 (fun W pn xe tk _ => ?_) (hC s H)) (hre s H)), hσ f _ H ?_⟩
  · refine ⟨fun pins s' σ H' D I h' => ?_⟩
    obtain ⟨Ec, hE, h1, h2, h3⟩ := h'
    have call := act _ pn xe Ec p1 p2 (takes_len tk) (fun cls d σ' H' z hl => hE cls d σ' H' z hl)
    exact (pss_one (ps_expr (pos := p3) call (hsw s H pn xe))).run pins s' σ H' D I ⟨h1, h2, h3⟩
  · exact ⟨Ech, hW, h0 f, hc, ht⟩
end
end Many
namespace RS
open PySem L2 LamX Many
/-- what _law_error names -/
structure ErrTxt (K : PySem.W.Frag) (mg : Str → Option Value) (CSl CB CR : Addr) : Prop where
  g1 : mg "InvalidSlot" = some (.ref CSl)
  g2 : mg "InvalidBound" = some (.ref CB)
  g3 : mg "RetryError" = some (.ref CR)
  ar : mg "ArithmeticError" = none
  isi : mg "isinstance" = none
  e1 : ErCls K CSl
  e2 : ErCls K CB
  x11 : PySem.W.exmOne K (.ref CSl) (.ref CSl) = some true
  x21 : PySem.W.exmOne K (.ref CB) (.ref CSl) = some false
  x22 : PySem.W.exmOne K (.ref CB) (.ref CB) = some true
  k1 : PySem.W.kitOne K (.ref CSl) (.type "ArithmeticError") = some true
  k2 : PySem.W.kitOne K (.ref CB) (.type "ArithmeticError") = some true
  k12 : PySem.W.kitOne K (.ref CSl) (.ref CB) = some false
  k21 : PySem.W.kitOne K (.ref CB) (.ref CSl) = some false
  n1 : PySem.W.findIn K (.ref CSl) "slot" = some none
  n2 : PySem.W.findIn K (.ref CB) "part" = some none
def errN : List Str := ["_law_ask", "_law_result", "error"]
theorem scErr : FnScope errN ["_law_ask"] (defScope s_law_error) := ⟨rfl, rfl, rfl, by decide +kernel, rfl, by decide +kernel, by decide +kernel⟩
/-- what is told of an error: a list of a word, its field, and what it is -/
def ErrEr (CSl CB : Addr) (Q : VK) (cls : Value) (d : Option Addr) (H : Hp) : Prop := ∃ (dd : Addr) (v : V), d = some dd ∧
  ((cls = .ref CSl ∧ H dd = some (.xd [("slot", v)]) ∧ ∀ L H', Same H H' → H' L = some (.lst [.str "slot", v, .bl true, .bl false]) → Q (.ref L) H') ∨
    (cls = .ref CB ∧ H dd = some (.xd [("part", v)]) ∧ ∀ L H', Same H H' → H' L = some (.lst [.str "bound", v, .bl true, .bl false]) → Q (.ref L) H'))
abbrev errX (X : Cx) (g : Addr) (cdg : Value) (s : Shared) (H : Hp) : Cx := (cxOf C8.CX0 X.prog X.w X.K X.mg X.base errN "_law_error" (defScope s_law_error) g cdg X.A X.stack s H C8.E0).nox
section
variable {X : Cx} {CSl CB CR : Addr} {g : Addr} {cdg : Value} {q : Str}
theorem err_walk (TX : ErrTxt X.K X.mg CSl CB CR) : ∃ (l : Shared → Hp → List (Value × Option Nat × Told)) (tr : TS) (σ1 : Addr → L2.St),
    GivesTo X errN "_law_error" (defScope s_law_error) g cdg (defBody s_law_error) "_law_ask" q (TEach X.K errN l tr σ1) ∧
    ∀ (tl : XK → Hp → VK → Prop) (H : Hp) (Q : VK), (∀ (E : XK) (Q' : VK), (∀ cls d H', ErrEr CSl CB Q cls d H' → E cls d H') → tl E H Q') → TEach X.K errN l tr σ1 tl H Q := by
  refine ⟨fun s H => _, _, _, each_gives (σ1 := fun f => [some (.ref f), some (.str "none"), none]) scErr.nd (fun s H => (ps_set (i := 1) scErr.nd rfl (Or.inl rfl) pe_str)) (fun f D H' k => k) (fun f => rfl)
    (fun s H => .named (i := 2) (X := errX X g cdg s H) ⟨rfl, rfl, .inl TX.g1⟩ rfl rfl (fun a oe cls d pn hz hf => (pss_one (ps_set (i := 1) scErr.nd rfl (Or.inl rfl) (pe_lst (pa_cons pe_str (pa_cons (pe_byX (X := errX X g cdg s H) (a := a) (pn := pn) hz hf (pv 2)) (pa_cons (pe_callB (call_isEr (X := errX X g cdg s H) (a := a) (pn := pn) hz hf) (by rfl) TX.isi (by decide +kernel) (pa_cons (pv 2) (pa_cons (pe_bltn (v := .ty "ArithmeticError") (by rfl) TX.ar (by decide +kernel) rfl) pa_nil))) (pa_cons (pe_callB (call_isEr (X := errX X g cdg s H) (a := a) (pn := pn) hz hf) (by rfl) TX.isi (by decide +kernel) (pa_cons (pv 2) (pa_cons (pe_glob (v := .ref CB) rfl TX.g2 rfl) pa_nil))) pa_nil))))))))
      (.named (i := 2) (X := errX X g cdg s H) ⟨rfl, rfl, .inl TX.g2⟩ rfl rfl (fun a oe cls d pn hz hf => (pss_one (ps_set (i := 1) scErr.nd rfl (Or.inl rfl) (pe_lst (pa_cons pe_str (pa_cons (pe_byX (X := errX X g cdg s H) (a := a) (pn := pn) hz hf (pv 2)) (pa_cons (pe_callB (call_isEr (X := errX X g cdg s H) (a := a) (pn := pn) hz hf) (by rfl) TX.isi (by decide +kernel) (pa_cons (pv 2) (pa_cons (pe_bltn (v := .ty "ArithmeticError") (by rfl) TX.ar (by decide +kernel) rfl) pa_nil))) (pa_cons (pe_callB (call_isEr (X := errX X g cdg s H) (a := a) (pn := pn) hz hf) (by rfl) TX.isi (by decide +kernel) (pa_cons (pv 2) (pa_cons (pe_glob (v := .ref CSl) rfl TX.g1 rfl) pa_nil))) pa_nil))))))))
      (.bare (X := errX X g cdg s H) ⟨rfl, rfl, .inl TX.g3⟩ (fun a oe cls d pn hz hf => (pss_one (ps_set (i := 1) scErr.nd rfl (Or.inl rfl) pe_str))) .nil)))
    (fun s H => pss_one (ps_ret (pv 1))), fun tl H Q h s f => ?_⟩
  refine ⟨fun cls d H' => ErrEr CSl CB Q cls d H', fun cls d σ' H' er hl => ?_, h _ _ fun _ _ _ z => z⟩
  have e3 : σ'.length = 3 := hl
  match σ', e3 with
  | [v0, v1, v2], _ =>
  obtain ⟨dd, v, rfl, er⟩ := er
  rcases er with ⟨rfl, hx, k⟩ | ⟨rfl, hx, k⟩
  · refine ⟨true, TX.x11, (fun z => by cases z), fun _ a ha => ?_⟩
    have hd : Held H' (.ref CSl) (some dd) CSl dd [("slot", v)] := ⟨rfl, rfl, hx⟩
    refine ⟨_, rfl, CSl, dd, _, v, rfl, hd, TX.e1, TX.n1, rfl, _, rfl, CSl, dd, _, _, _, _, hd, TX.e1, rfl, (fun u z => z), TX.k1, _, rfl, CSl, dd, _, _, _, _, hd, TX.e1, rfl, (fun u z => z), TX.k12, (by show 4 ≤ sizeLine; decide), fun L hL => ?_⟩
    exact ⟨_, rfl, k L _ (same_new hL) upd_same⟩
  · refine ⟨false, TX.x21, (fun _ => ⟨true, TX.x22, (fun z => by cases z), fun _ a ha => ?_⟩), (fun z => by cases z)⟩
    have hd : Held H' (.ref CB) (some dd) CB dd [("part", v)] := ⟨rfl, rfl, hx⟩
    refine ⟨_, rfl, CB, dd, _, v, rfl, hd, TX.e2, TX.n2, rfl, _, rfl, CB, dd, _, _, _, _, hd, TX.e2, rfl, (fun u z => z), TX.k2, _, rfl, CB, dd, _, _, _, _, hd, TX.e2, rfl, (fun u z => z), TX.k21, (by show 4 ≤ sizeLine; decide), fun L hL => ?_⟩
    exact ⟨_, rfl, k L _ (same_new hL) upd_same⟩
end
end RS
namespace RS
open PySem L2 PySem.Spec PyProof.Rows
/-! ### a def of the module called with keywords alone: f(k = v) -/
def tDefK (n : Nat) (sp : Sp) (gV : List V → List V → List V) (E : XK) (tk : TA) : TE := fun σ H Q => tk σ H fun zs H2 => zs.length = n ∧ sp (gV [] zs) H2 Q E
theorem pe_defK0 {X : Cx} {CX : CXT} {k : Nat} {f : Addr} {fd : FuncData} {x : Str} {p pos : Pos} {ps ks : List Str} {sp : Sp} {E : XK} {kws : List Keyword} {tk : TA} {g : List Value → List Value → List Value} {gV : List V → List V → List V}
    (F : FnOk X.prog X.w X.K X.mg X.base CX k f fd ps sp) (hr : Room k X.A) (hg : Gl X x) (hm : X.mg x = some (.ref f)) (hf : PySem.W.keepIn X.K (.ref f) = true) (hb : KBn X.K fd ps 0 ks g gV) (hx : Passes CX X E) (hkw : PK X kws tk)
    (a1 : (backToKw pos (keywordEach kws X.env)).all (·.1.isSome) = true := by rfl) (a2 : (backToKw pos (keywordEach kws X.env)).filterMap (·.1) = ks := by rfl) (a3 : (x == ("__debug__" : Str)) = false := by decide)
    (a4 : ((backTo pos (starEach [] X.env)).any (·.1) || (backToKw pos (keywordEach kws X.env)).any (·.1.isNone)) = false := by rfl) :
    PE X (.Call (.Name x p) [] kws pos) (tDefK ks.length sp gV E tk) := by
  constructor
  intro pins s σ H Q I h
  refine wpAny_Call_Name_kw (ld_glob I hg hm (PySem.W.callWith_KW0 (first := []) (h₀ := X.base) I.ok.mod.kin hf a1 (thn (hkw.run pos pins s σ H _ I h) ?_) a4) a3)
  intro ws s2 ⟨zs, H2, I2, rz, l2, q2⟩
  refine ⟨I2.kIn, ?_⟩
  rw [a2]
  exact run_fnN (us := []) (vs := []) F hr hb hx I2 .nil rz rfl l2 q2
/-- how a def of one parameter binds it by its name -/
theorem kb_one {K : PySem.W.Frag} {x qual : Str} {st : Stmt} {f : Addr} {fd : FuncData} {ps ks : List Str} (F : Fun K x qual st f fd)
    (h : ∀ (kV doc pm : Value) (an : Option Addr) (cdv ct v : Value), bindArgs (PySem.W.fnOf x qual (defArgs st) (defBody st) (defScope st) .none kV doc pm an cdv ct) ⟨[], ks.zip [v]⟩ = pure (ps.zip [v])) (hk : ks.length = 1) :
    KBn K fd ps 0 ks (fun us ws => us ++ ws) (fun vs zs => vs ++ zs) := by
  obtain ⟨oc, od, kV, doc, pm, an, cdv, ct, osl, rfl, lk, hcd⟩ := F.ex
  refine ⟨fun s us ws _ l1 l2 => .of_eq ?_, fun r1 r2 => r1.append r2⟩
  rw [hk] at l2
  match us, ws, l1, l2 with
  | [], [v], _, _ => exact h kV doc pm an cdv ct v
end RS
namespace RS
open PySem L2
theorem Bey.one {gs : List Int} {b r : Int} {n k : Nat} (h : Bey gs b r n) (g : Bey gs b r k) : n = k := by
  have h1 := h.lo
  have g1 := g.lo
  rcases Nat.lt_trichotomy n k with z | z | z
  · have := g.le (n - 2) (by omega) (by omega)
    have := h.hi
    omega
  · exact z
  · have := h.le (k - 2) (by omega) (by omega)
    have := g.hi
    omega
theorem TellN.one {gs : List Int} {tl : Tl} {n k : Nat} (h : TellN gs n tl) (g : TellN gs k tl) : n = k := by
  cases tl with
  | fin => exact (show n = gs.length + 1 from h).trans (show k = gs.length + 1 from g).symm
  | rep m => exact (show n = gs.length + 2 from h).trans (show k = gs.length + 2 from g).symm
  | times b => exact Bey.one h g
theorem UpTo.one {n : Nat} {ps qs : List Pr} (h : UpTo n n 0 ps) (g : UpTo n n 0 qs) : ps = qs :=
  pw_ext (r := pLt) (fun x => pLt_irr x) (fun x y h => by unfold pLt at h ⊢; omega) h.pw g.pw fun x => (h.mem x).trans (g.mem x).symm
end RS
namespace RS
open PySem L2
theorem MostOf.one {os : List Int} {PS : List Pr} {m n : Nat} {u v : V} (h : MostOf os PS m u) (g : MostOf os PS n v) : m = n ∧ u = v := by
  rcases h with ⟨rfl, rfl, rfl⟩ | ⟨d, rfl, h1, h2, h3, h4⟩ <;> rcases g with ⟨g0, rfl, rfl⟩ | ⟨e, rfl, g1, g2, g3, g4⟩
  · exact ⟨rfl, rfl⟩
  · have z : (grp os [] e).length = 0 := rfl
    omega
  · subst g0
    have z : (grp os [] d).length = 0 := rfl
    omega
  · have a := h3 e
    have b := g3 d
    have mn : m = n := by omega
    subst mn
    have a := h4 e g2
    have b := g4 d h2
    have de : d = e := by omega
    exact ⟨rfl, by rw [de]⟩
section
variable {K : PySem.W.Frag} {f : Addr} {fd : FuncData}
theorem kb_sd (F : Fun K "is_spread" "is_spread" s_is_spread f fd) : KBn K fd ["rule"] 0 ["rule"] (fun us ws => us ++ ws) (fun vs zs => vs ++ zs) := kb_one F (fun _ _ _ _ _ _ _ => rfl) rfl
theorem kb_fp (F : Fun K "first_repetition" "first_repetition" s_first_repetition f fd) : KBn K fd ["rule"] 0 ["rule"] (fun us ws => us ++ ws) (fun vs zs => vs ++ zs) := kb_one F (fun _ _ _ _ _ _ _ => rfl) rfl
theorem kb_ms (F : Fun K "most_shared" "most_shared" s_most_shared f fd) : KBn K fd ["rule"] 0 ["rule"] (fun us ws => us ++ ws) (fun vs zs => vs ++ zs) := kb_one F (fun _ _ _ _ _ _ _ => rfl) rfl
theorem kb_ir (F : Fun K "is_repetition" "is_repetition" s_is_repetition f fd) : KBn K fd ["rule", "value"] 0 ["value", "rule"] (fun us ws => us ++ ws.reverse) (fun vs zs => vs ++ zs.reverse) := kb_swap F (fun _ _ _ _ _ _ _ _ => rfl) rfl
theorem kb_sg (F : Fun K "shared_attempts" "shared_attempts" s_shared_attempts f fd) : KBn K fd ["rule", "distance"] 0 ["distance", "rule"] (fun us ws => us ++ ws.reverse) (fun vs zs => vs ++ zs.reverse) := kb_swap F (fun _ _ _ _ _ _ _ _ => rfl) rfl
theorem kb_nd (F : Fun K "next_distance" "next_distance" s_next_distance f fd) : KBn K fd ["rule", "distance"] 0 ["distance", "rule"] (fun us ws => us ++ ws.reverse) (fun vs zs => vs ++ zs.reverse) := kb_swap F (fun _ _ _ _ _ _ _ _ => rfl) rfl
theorem kb_cd (F : Fun K "count_distances" "count_distances" s_count_distances f fd) : KBn K fd ["rule", "limit"] 0 ["limit", "rule"] (fun us ws => us ++ ws.reverse) (fun vs zs => vs ++ zs.reverse) := kb_swap F (fun _ _ _ _ _ _ _ _ => rfl) rfl
end
section
variable {P : Program} {w : World} {K : PySem.W.Frag} {mg : Str → Option Value} {base : Heap}
/-! ### _law_names_right (k20) -/
def repD : PyData := .tuple [.tuple [.int 0, .int 1], .tuple [.int 1, .int 2]]
/-- two pairs are laid -/
theorem rep_lit {H : Hp} {a q1 q2 q3 : Addr} {C : Addr} {fs : List (Str × V)} (ha : ∃ dx, H a = some (.ins C dx fs)) (h1 : H q1 = none) (h2 : (upd H q1 (.tup [.int 0, .int 1])) q2 = none) (h3 : (upd (upd H q1 (.tup [.int 0, .int 1])) q2 (.tup [.int 1, .int 2])) q3 = none) :
    Same H (upd (upd (upd H q1 (.tup [.int 0, .int 1])) q2 (.tup [.int 1, .int 2])) q3 (.tup [.ref q1, .ref q2])) ∧ Dx a (upd (upd (upd H q1 (.tup [.int 0, .int 1])) q2 (.tup [.int 1, .int 2])) q3 (.tup [.ref q1, .ref q2])) (.ref q3) repD ∧ q3 ≠ a := by
  obtain ⟨dx, ha⟩ := ha
  have s1 := same_new (o := .tup [V.int 0, .int 1]) h1
  have s2 := same_new (o := .tup [V.int 1, .int 2]) h2
  have s3 := same_new (o := .tup [V.ref q1, .ref q2]) h3
  have n1 : q1 ≠ a := (ne_of_none ha h1).symm
  have n2 : q2 ≠ a := (ne_of_none (s1 _ _ ha) h2).symm
  have n3 : q3 ≠ a := (ne_of_none (s2 _ _ (s1 _ _ ha)) h3).symm
  refine ⟨(s1.trans s2).trans s3, .tup n3 upd_same (.cons (.tup n1 (s3 _ _ (s2 _ _ upd_same)) (.cons (.int _) (.cons (.int _) .nil))) (.cons (.tup n2 (s3 _ _ upd_same) (.cons (.int _) (.cons (.int _) .nil))) .nil)), n3⟩
def spNr (C : Addr) : Sp := fun vs H Q _ => ∃ (p g t o : Addr) (gs : List Int) (tl : Tl) (d : Int), vs = [.ref p, .int d] ∧ RuleAt C H p g t o gs tl ∧ 1 ≤ d ∧ d < 2 ^ 100 ∧ ∀ H', Same H H' → Q (.bl true) H'
def nrN : List Str := ["_law_plan", "_law_apart", "_law_same"]
theorem scNr : FnScope nrN ["_law_plan", "_law_apart"] (defScope s_law_names_right) := ⟨rfl, rfl, rfl, by decide +kernel, rfl, by decide +kernel, by decide +kernel⟩
theorem ok_nr {f C fSd fFp fMs fIr fSg fNd fCd : Addr} {fd fdSd fdFp fdMs fdIr fdSg fdNd fdCd : FuncData} (F : Fun K "_law_names_right" "_law_names_right" s_law_names_right f fd) (T : Txt K mg C)
    (FSd : Fun K "is_spread" "is_spread" s_is_spread fSd fdSd) (FFp : Fun K "first_repetition" "first_repetition" s_first_repetition fFp fdFp) (FMs : Fun K "most_shared" "most_shared" s_most_shared fMs fdMs) (FIr : Fun K "is_repetition" "is_repetition" s_is_repetition fIr fdIr)
    (FSg : Fun K "shared_attempts" "shared_attempts" s_shared_attempts fSg fdSg) (FNd : Fun K "next_distance" "next_distance" s_next_distance fNd fdNd) (FCd : Fun K "count_distances" "count_distances" s_count_distances fCd fdCd)
    (GSd : FnOk P w K mg base CX0 7 fSd fdSd ["rule"] (spSd2 C)) (bSd : Binds K fdSd ["rule"] []) (mSd : mg "is_spread" = some (.ref fSd)) (kSd : PySem.W.keepIn K (.ref fSd) = true)
    (GFp : FnOk P w K mg base CX0 6 fFp fdFp ["rule"] (spFp2 C)) (bFp : Binds K fdFp ["rule"] []) (mFp : mg "first_repetition" = some (.ref fFp)) (kFp : PySem.W.keepIn K (.ref fFp) = true)
    (GMs : FnOk P w K mg base CX0 6 fMs fdMs ["rule"] (spMs3 C)) (bMs : Binds K fdMs ["rule"] []) (mMs : mg "most_shared" = some (.ref fMs)) (kMs : PySem.W.keepIn K (.ref fMs) = true)
    (GIr : FnOk P w K mg base CX0 7 fIr fdIr ["rule", "value"] (spIsRep C)) (bIr : Binds K fdIr ["rule", "value"] []) (mIr : mg "is_repetition" = some (.ref fIr)) (kIr : PySem.W.keepIn K (.ref fIr) = true)
    (GSg : FnOk P w K mg base CX0 8 fSg fdSg ["rule", "distance"] (spSg C)) (bSg : Binds K fdSg ["rule", "distance"] []) (mSg : mg "shared_attempts" = some (.ref fSg)) (kSg : PySem.W.keepIn K (.ref fSg) = true)
    (GNd : FnOk P w K mg base CX0 8 fNd fdNd ["rule", "distance"] (spNd C)) (bNd : Binds K fdNd ["rule", "distance"] []) (mNd : mg "next_distance" = some (.ref fNd)) (kNd : PySem.W.keepIn K (.ref fNd) = true)
    (GCd : FnOk P w K mg base CX0 8 fCd fdCd ["rule", "limit"] (spCd C)) (bCd : Binds K fdCd ["rule", "limit"] []) (mCd : mg "count_distances" = some (.ref fCd)) (kCd : PySem.W.keepIn K (.ref fCd) = true) : FnOk P w K mg base CX0 9 f fd ["_law_plan", "_law_apart"] (spNr C) := by
  refine F.ok scNr (fun vs H Q E h => ?_) (fun cdv A outer s H vs Q E hr h => ?_)
  · obtain ⟨p, g, t, o, gs, tl, d, rfl, _⟩ := h
    rfl
  · obtain ⟨p, g, t, o, gs, tl, d, rfl, R, d1, d2, k⟩ := h
    have hr6 := hr.mono (show 6 ≤ 8 by decide)
    have hr7 := hr.mono (show 7 ≤ 8 by decide)
    refine ⟨_, (pss_cons (ps_set (i := 2) scNr.nd rfl (Or.inl rfl) (pe_lst (pa_cons (pe_cmpR op_eq (pe_defK0 GSd hr7 rfl mSd kSd (kb_sd FSd) pass0 (pk_cons (pv 0) pk_nil)) (pe_call GSd hr7 rfl mSd kSd bSd .nil pass0 (pa_cons (pv 0) pa_nil)) (nomark _)) (pa_cons (pe_cmpR (op_eqD hr.units) (pe_defK0 GFp hr6 rfl mFp kFp (kb_fp FFp) pass0 (pk_cons (pv 0) pk_nil)) (pe_call GFp hr6 rfl mFp kFp bFp .nil pass0 (pa_cons (pv 0) pa_nil)) (nomark _)) pa_nil)))) (Evl.pss_cut (ps_expr (pe_bm PySem.F.plainAttrs_list PySem.F.slot_list_append PySem.F.type_list_append mt_append (pv 2) (pa_cons (pe_cmpR (op_eqD hr.units) (pe_defK0 GMs hr6 rfl mMs kMs (kb_ms FMs) pass0 (pk_cons (pv 0) pk_nil)) (pe_call GMs hr6 rfl mMs kMs bMs .nil pass0 (pa_cons (pv 0) pa_nil)) (nomark _)) pa_nil))) (Evl.pss_cut (ps_expr (pe_bm PySem.F.plainAttrs_list PySem.F.slot_list_append PySem.F.type_list_append mt_append (pv 2) (pa_cons (pe_cmpR op_eq (pe_defK0 GIr hr7 rfl mIr kIr (kb_ir FIr) pass0 (pk_cons (pe_tup (pa_cons (pe_tup (pa_cons pe_int (pa_cons pe_int pa_nil))) (pa_cons (pe_tup (pa_cons pe_int (pa_cons pe_int pa_nil))) pa_nil))) (pk_cons (pv 0) pk_nil))) (pe_call GIr hr7 rfl mIr kIr bIr .nil pass0 (pa_cons (pv 0) (pa_cons (pe_tup (pa_cons (pe_tup (pa_cons pe_int (pa_cons pe_int pa_nil))) (pa_cons (pe_tup (pa_cons pe_int (pa_cons pe_int pa_nil))) pa_nil))) pa_nil))) (nomark _)) pa_nil))) (Evl.pss_cut (ps_expr (pe_bm PySem.F.plainAttrs_list PySem.F.slot_list_append PySem.F.type_list_append mt_append (pv 2) (pa_cons (pe_cmpR (op_eqD hr.units) (pe_defK0 GSg hr rfl mSg kSg (kb_sg FSg) pass0 (pk_cons (pv 1) (pk_cons (pv 0) pk_nil))) (pe_call GSg hr rfl mSg kSg bSg .nil pass0 (pa_cons (pv 0) (pa_cons (pv 1) pa_nil))) (nomark _)) pa_nil))) (Evl.pss_cut (ps_expr (pe_bm PySem.F.plainAttrs_list PySem.F.slot_list_append PySem.F.type_list_append mt_append (pv 2) (pa_cons (pe_cmpR (op_eqD hr.units) (pe_defK0 GNd hr rfl mNd kNd (kb_nd FNd) pass0 (pk_cons (pv 1) (pk_cons (pv 0) pk_nil))) (pe_call GNd hr rfl mNd kNd bNd .nil pass0 (pa_cons (pv 0) (pa_cons (pv 1) pa_nil))) (nomark _)) pa_nil))) (Evl.pss_cut (ps_expr (pe_bm PySem.F.plainAttrs_list PySem.F.slot_list_append PySem.F.type_list_append mt_append (pv 2) (pa_cons (pe_cmpR op_eq (pe_defK0 GCd hr rfl mCd kCd (kb_cd FCd) pass0 (pk_cons (pv 1) (pk_cons (pv 0) pk_nil))) (pe_call GCd hr rfl mCd kCd bCd .nil pass0 (pa_cons (pv 0) (pa_cons (pv 1) pa_nil))) (nomark _)) pa_nil))) (pss_one (ps_ret (pe_callB (cr_all rfl) (by rfl) T.all (by decide +kernel) (pa_cons (pv 2) pa_nil)))))))))), ?_⟩
    have okG := R.okG
    have okT := R.okT
    have same : ∀ {b : Bool}, V.bl (decide (V.bl b = V.bl b)) = V.bl true := fun {b} => by rw [decide_eq_true rfl]
    -- spread, and the first repetition
    refine ⟨_, rfl, rfl, p, g, t, o, gs, tl, rfl, R, fun n r H1 hT hR S1 => ?_⟩
    have R1 := R.mono S1
    refine ⟨_, rfl, p, g, t, o, gs, tl, rfl, R1, fun n' r' H2 hT' hR' S2 => ?_⟩
    have R2 := R1.mono S2
    cases TellN.one hT hT'
    cases hR.one hR'
    refine ⟨rfl, ?_⟩
    rw [same]
    refine ⟨_, rfl, rfl, p, g, t, o, gs, tl, rfl, R2, fun n2 r2 v2 H3 hT2 hR2 S3 hv2 => ?_⟩
    have R3 := R2.mono S3
    refine ⟨_, rfl, p, g, t, o, gs, tl, rfl, R3, fun n3 r3 v3 H4 hT3 hR3 S4 hv3 => ?_⟩
    have R4 := R3.mono S4
    cases TellN.one hT2 hT3
    cases hR2.one hR3
    have hdp : ∃ dd : PyData, Dp K H4 v2 dd ∧ Dp K H4 v3 dd ∧ SeqAt.shaped dd = true ∧ PyData.eqv dd dd = true := by
      match r2, hv2, hv3 with
      | none, h1, h2 =>
        cases (h1 : v2 = .non)
        cases (h2 : v3 = .non)
        exact ⟨.none, .non, .non, rfl, rfl⟩
      | some sr, ⟨x, hx1, hx2⟩, ⟨y, hy1, hy2⟩ =>
        subst hx1 hy1
        exact ⟨quadD sr, (hx2.kx fun z xs e => S4 _ _ e).dp, hy2.dp, rfl, by simp [quadD, pairD, PyData.eqv, PyData.eqvAll]⟩
    obtain ⟨dd, z1, z2, z3, z4⟩ := hdp
    refine ⟨dd, dd, z1, z2, z3, z3, ?_⟩
    rw [z4]
    refine ⟨(by show 2 ≤ sizeLine; decide), fun L hL => ?_⟩
    have nL : H L = none := by
      cases e : H L with
      | none => rfl
      | some u =>
        rw [(((S1.trans S2).trans S3).trans S4) _ _ e] at hL
        cases hL
    have S5 := (((S1.trans S2).trans S3).trans S4).trans (same_new (o := .lst [V.bl true, V.bl true]) hL)
    have R5 := R4.mono (same_new (o := .lst [V.bl true, V.bl true]) hL)
    have hL5 : (upd H4 L (.lst [V.bl true, V.bl true])) L = some (.lst ((List.replicate 2 true).map V.bl)) := upd_same
    generalize (upd H4 L (.lst [V.bl true, V.bl true])) = H5 at S5 R5 hL5 ⊢
    clear z1 z2 z3 z4 hv2 hv3 hR2 hR3 hT2 hT hR R4 R3 R2 R1 S1 S2 S3 S4
    clear R5
    let I : Nat → L2.St → Hp → Prop := fun j σ H' => σ = [some (.ref p), some (.int d), some (.ref L)] ∧ Same H H' ∧ H' L = some (.lst ((List.replicate j true).map V.bl))
    have grow : ∀ {j : Nat} {H' : Hp}, Same H H' → H' L = some (.lst ((List.replicate j true).map V.bl)) → I (j + 1) [some (.ref p), some (.int d), some (.ref L)] (upd H' L (.lst ((List.replicate j true).map V.bl ++ [V.bl true]))) := fun {j H'} S e => ⟨rfl, same_app nL S, by rw [upd_same, List.replicate_succ', List.map_append]; rfl⟩
    -- the most
    refine ⟨I 3, ?_, ?_⟩
    · have R5 := R.mono S5
      refine ⟨_, rfl, .inl ⟨rfl, _, SqL.of hL5⟩, ?_⟩
      by_cases hrep : ∃ m, tl = .rep m
      · refine ⟨_, rfl, rfl, p, g, t, o, gs, tl, rfl, R5, fun _ => ?_, fun q n PS most dv He hnr => absurd hrep (fun ⟨m, e⟩ => hnr m e)⟩
        refine ⟨_, rfl, p, g, t, o, gs, tl, rfl, R5, fun _ => ?_, fun q n PS most dv He hnr => absurd hrep (fun ⟨m, e⟩ => hnr m e)⟩
        refine ⟨.none, .none, .non, .non, rfl, rfl, ?_⟩
        exact ⟨L, _, _, rfl, rfl, hL5, by rw [List.length_map, List.length_replicate]; exact small1000 (by omega), grow S5 hL5⟩
      · refine ⟨_, rfl, rfl, p, g, t, o, gs, tl, rfl, R5, fun z => absurd z hrep, fun q n PS most dv H6 _ hq S6 hT hU hM hq1 => ?_⟩
        refine ⟨_, rfl, p, g, t, o, gs, tl, rfl, R5.mono S6, fun z => absurd z hrep, fun q' n' PS' most' dv' H7 _ hq' S7 hT' hU' hM' hq1' => ?_⟩
        cases TellN.one hT hT'
        cases hU.one hU'
        obtain ⟨em, ed⟩ := hM.one hM'
        subst em ed
        have hdd : ∃ dd : PyData, Dp K H7 dv dd ∧ SeqAt.shaped (.tuple [.int (most : Int), dd]) = true ∧ PyData.eqv dd dd = true := by
          rcases hM with ⟨_, _, rfl⟩ | ⟨d0, rfl, _⟩
          · exact ⟨.none, .non, rfl, rfl⟩
          · exact ⟨.int d0, .int d0, rfl, by simp [PyData.eqv]⟩
        obtain ⟨dd, z1, z2, z3⟩ := hdd
        have S57 := S6.trans S7
        refine ⟨.tuple [.int (most : Int), dd], .tuple [.int (most : Int), dd], .tup (SqT.of (S7 _ _ hq1)) (.cons (.int _) (.cons z1 .nil)), .tup (SqT.of hq1') (.cons (.int _) (.cons z1 .nil)), z2, z2, ?_⟩
        rw [show PyData.eqv (.tuple [.int (most : Int), dd]) (.tuple [.int (most : Int), dd]) = true by simp [PyData.eqv, PyData.eqvAll, z3]]
        exact ⟨L, _, _, rfl, rfl, S57 _ _ hL5, by rw [List.length_map, List.length_replicate]; exact small1000 (by omega), grow (S5.trans S57) (S57 _ _ hL5)⟩
    rintro _ H6 ⟨rfl, S6, hL6⟩
    clear S5 hL5 hL
    -- a repetition
    refine ⟨I 4, ?_, ?_⟩
    · have R6 := R.mono S6
      refine ⟨_, rfl, .inl ⟨rfl, _, SqL.of hL6⟩, ?_⟩
      refine ⟨(by show 2 ≤ sizeLine; decide), fun q1 hq1 => ⟨(by show 2 ≤ sizeLine; decide), fun q2 hq2 => ⟨(by show 2 ≤ sizeLine; decide), fun q3 hq3 => ?_⟩⟩⟩
      obtain ⟨S7, hd7, hp7⟩ := rep_lit (H := H6) R6.ob hq1 hq2 hq3
      generalize (upd (upd (upd H6 q1 (.tup [.int 0, .int 1])) q2 (.tup [.int 1, .int 2])) q3 (.tup [.ref q1, .ref q2])) = H7 at S7 hd7 ⊢
      refine ⟨_, rfl, rfl, p, g, t, o, p, gs, tl, .ref q3, repD, rfl, R6.mono S7, hd7, fun H8 S8 => ?_⟩
      refine ⟨_, rfl, (by show 2 ≤ sizeLine; decide), fun q4 hq4 => ⟨(by show 2 ≤ sizeLine; decide), fun q5 hq5 => ⟨(by show 2 ≤ sizeLine; decide), fun q6 hq6 => ?_⟩⟩⟩
      have R8 := (R6.mono S7).mono S8
      obtain ⟨S9, hd9, hp9⟩ := rep_lit (H := H8) R8.ob hq4 hq5 hq6
      generalize (upd (upd (upd H8 q4 (.tup [.int 0, .int 1])) q5 (.tup [.int 1, .int 2])) q6 (.tup [.ref q4, .ref q5])) = H9 at S9 hd9 ⊢
      refine ⟨p, g, t, o, p, gs, tl, .ref q6, repD, rfl, R8.mono S9, hd9, fun H10 S10 => ?_⟩
      have S60 := ((S7.trans S8).trans S9).trans S10
      refine ⟨rfl, ?_⟩
      rw [same]
      exact ⟨L, _, _, rfl, rfl, S60 _ _ hL6, by rw [List.length_map, List.length_replicate]; exact small1000 (by omega), grow (S6.trans S60) (S60 _ _ hL6)⟩
    rintro _ H7 ⟨rfl, S7, hL7⟩
    clear S6 hL6
    -- the shared ones
    refine ⟨I 5, ?_, ?_⟩
    · have R7 := R.mono S7
      refine ⟨_, rfl, .inl ⟨rfl, _, SqL.of hL7⟩, ?_⟩
      refine ⟨_, rfl, _, rfl, rfl, p, g, t, o, gs, tl, d, rfl, R7, d1, by omega, fun q1 x1 x2 us1 vs1 ps1 H8 _ _ _ _ _ _ S8 hq1 hx1 hx2 tp1 tp1' _ hSh1 => ?_⟩
      refine ⟨_, rfl, _, rfl, p, g, t, o, gs, tl, d, rfl, R7.mono S8, d1, by omega, fun q2 y1 y2 us2 vs2 ps2 H9 _ _ _ _ _ _ S9 hq2 hy1 hy2 tp2 tp2' _ hSh2 => ?_⟩
      cases hSh1.one hSh2
      refine ⟨_, _, sh_dp2 (S9 _ _ hq1) (S9 _ _ hx1) (S9 _ _ hx2) (tp1.same S9) (tp1'.same S9), sh_dp2 hq2 hy1 hy2 tp2 tp2', shD2_shaped _ _, shD2_shaped _ _, ?_⟩
      rw [shD2_eqv, decide_eq_true ⟨rfl, rfl⟩]
      have S79 := S8.trans S9
      exact ⟨L, _, _, rfl, rfl, S79 _ _ hL7, by rw [List.length_map, List.length_replicate]; exact small1000 (by omega), grow (S7.trans S79) (S79 _ _ hL7)⟩
    rintro _ H8 ⟨rfl, S8, hL8⟩
    clear S7 hL7
    -- the next distance
    refine ⟨I 6, ?_, ?_⟩
    · have R8 := R.mono S8
      refine ⟨_, rfl, .inl ⟨rfl, _, SqL.of hL8⟩, ?_⟩
      refine ⟨_, rfl, _, rfl, rfl, p, g, t, o, gs, tl, d, rfl, R8, d1, by omega, fun x v H9 hX S9 hv => ?_⟩
      refine ⟨_, rfl, _, rfl, p, g, t, o, gs, tl, d, rfl, R8.mono S9, d1, by omega, fun x' v' H10 hX' S10 hv' => ?_⟩
      cases hX.one okG okT hX'
      have hv := hv.same S10
      have hdd : ∃ dd : PyData, Dp K H10 v dd ∧ Dp K H10 v' dd ∧ SeqAt.shaped dd = true ∧ PyData.eqv dd dd = true := by
        match x, hv, hv' with
        | none, h1, h2 =>
          cases (h1 : v = .non)
          cases (h2 : v' = .non)
          exact ⟨.none, .non, .non, rfl, rfl⟩
        | some (D, i, j), ⟨t1, u1, h1, ht1, hu1⟩, ⟨t2, u2, h2, ht2, hu2⟩ =>
          subst h1 h2
          exact ⟨tripD (D, (i : Int), (j : Int)), .tup (SqT.of ht1) (.cons (.int _) (.cons (.tup (SqT.of hu1) (.cons (.int _) (.cons (.int _) .nil))) .nil)), .tup (SqT.of ht2) (.cons (.int _) (.cons (.tup (SqT.of hu2) (.cons (.int _) (.cons (.int _) .nil))) .nil)), rfl, by simp [tripD, pairD, PyData.eqv, PyData.eqvAll]⟩
      obtain ⟨dd, z1, z2, z3, z4⟩ := hdd
      refine ⟨dd, dd, z1, z2, z3, z3, ?_⟩
      rw [z4]
      have S80 := S9.trans S10
      exact ⟨L, _, _, rfl, rfl, S80 _ _ hL8, by rw [List.length_map, List.length_replicate]; exact small1000 (by omega), grow (S8.trans S80) (S80 _ _ hL8)⟩
    rintro _ H9 ⟨rfl, S9, hL9⟩
    clear S8 hL8
    -- counted
    refine ⟨I 7, ?_, ?_⟩
    · have R9 := R.mono S9
      refine ⟨_, rfl, .inl ⟨rfl, _, SqL.of hL9⟩, ?_⟩
      refine ⟨_, rfl, _, rfl, rfl, p, g, t, o, gs, tl, d, rfl, R9, by omega, by omega, fun n1 H10 hN1 S10 => ?_⟩
      refine ⟨_, rfl, _, rfl, p, g, t, o, gs, tl, d, rfl, R9.mono S10, by omega, by omega, fun n2 H11 hN2 S11 => ?_⟩
      cases hN1.one hN2
      refine ⟨rfl, ?_⟩
      rw [decide_eq_true rfl]
      have S91 := S10.trans S11
      exact ⟨L, _, _, rfl, rfl, S91 _ _ hL9, by rw [List.length_map, List.length_replicate]; exact small1000 (by omega), grow (S9.trans S91) (S91 _ _ hL9)⟩
    rintro _ H10 ⟨rfl, S10, hL10⟩
    refine ⟨_, rfl, L, _, rfl, SqL.of hL10, ?_⟩
    exact k _ S10
end
end RS
/-! ### defs that are called where no container is being shown -/
namespace L2
open PySem PySem.Spec PyProof.Rows
section
variable {P : Program} {w : World} {K : PySem.W.Frag} {mg : Str → Option Value} {base : Heap}
/-- a def's promise, kept wherever no list, tuple or dict is being shown -/
structure FnG (P : Program) (w : World) (K : PySem.W.Frag) (mg : Str → Option Value) (base : Heap) (k : Nat) (f : Addr) (fd : FuncData) (ps : List Str) (sp : Sp) : Prop where
  many : ∀ {vs H Q E}, sp vs H Q E → vs.length = ps.length
  go : ∀ {A : Around} {outer : List Env} {s : Shared} {H : Hp} {args : Args} {us : List Value} {vs : List V} {Q : VK} {E : XK}, A.guards = some [] → Room k A → Env0 P w K mg base A outer s H → BindsTo s fd args (ps.zip us) → Vals vs us → sp vs H Q E →
    codeAny (model P w) A (.call (.ref f) args) (CR CX0 outer P w H s Q E) s
/-- by its body, its code object known -/
theorem calm_at {x qual : Str} {st : Stmt} {f : Addr} {N ps : List Str} {k : Nat} {sp : Sp} {oc kV doc pm cdv ct : Value} {od an : Option Addr} {osl : Array (Option Value)} (lk : K.lookup f = some ⟨oc, od, .func (PySem.W.fnOf x qual (defArgs st) (defBody st) (defScope st) .none kV doc pm an cdv ct), osl⟩) (hcd : PySem.W.codeIn K cdv qual = true) (S : FnScope N ps (defScope st)) (many : ∀ {vs H Q E}, sp vs H Q E → vs.length = ps.length)
    (walk : ∀ (A : Around) (outer : List Env) (s : Shared) (H : Hp) (vs : List V) (Q : VK) (E : XK), (A.deeper (envOfC qual (defScope st) s.heap.objs.size f cdv)).guards = some [] → Room k (A.deeper (envOfC qual (defScope st) s.heap.objs.size f cdv)) → sp vs H Q E →
      ∃ t, PSs (cxOf CX0 P w K mg base N qual (defScope st) f cdv A outer s H E).nox (defBody st) t ∧ t { nx := fun _ H' => Q .non H', rt := Q } (start N vs) H) : FnG P w K mg base (k + 1) f (PySem.W.fnOf x qual (defArgs st) (defBody st) (defScope st) .none kV doc pm an cdv ct) ps sp := by
  refine ⟨many, fun {A outer s H args us vs Q E} calm hr e0 hb rv hsp => ?_⟩
  have old : ∀ b o, base.get? b = some o → s.heap.get? b = some o := fun b o e => (e0.bs b o e).1
  have kin := e0.mod.kin.keeps old
  refine codeAny_call_function hr.depth (kin _ _ lk) rfl S.co S.gen rfl (PySem.W.codeRec_of kin hcd) (hb _ _ _ _ (wpAny_newFunctionEnv_cells S.kind (fun q hq => ?_) fun env he s1 made => ?_))
  · exact (S.par q.1 (List.of_mem_zip (a := q.1) (b := q.2) hq).1).imp id fun z => ⟨z, PySem.W.cellsFrom_some _ _ _ (.inl z)⟩
  · subst he
    obtain ⟨t, ht, hq⟩ := walk A outer s H vs Q E calm (hr.deeper _) hsp
    have I := inv_start (CX := CX0) (E := E) (cd := cdv) (f := f) (qual := qual) S hr.hd e0 (many hsp) rv made
    refine ⟨(e0.mod.nolimit.keeps old).keeps made.toInCall.keep, codeAny_func (wpAny_mono (ht.nox.run [] s1 (start N vs) H _ I hq) (fun fl s' told => ?_) fun _ _ z => z)⟩
    match fl, told with
    | .ret _, ⟨v, _, H', J, ru, q⟩ => exact ⟨v, H', J.os, J.bare, J.base, J.hok, ru, q⟩
    | .next, ⟨_, H', J, q⟩ => exact ⟨.non, H', J.os, J.bare, J.base, J.hok, rfl, q⟩
    | .brk, ⟨_, _, _, q⟩ => exact q.elim
    | .cont, ⟨_, _, _, q⟩ => exact q.elim
theorem Fun.calm {x qual : Str} {st : Stmt} {f : Addr} {fd : FuncData} {N ps : List Str} {k : Nat} {sp : Sp} (F : Fun K x qual st f fd) (S : FnScope N ps (defScope st)) (many : ∀ {vs H Q E}, sp vs H Q E → vs.length = ps.length)
    (walk : ∀ (cdv : Value) (A : Around) (outer : List Env) (s : Shared) (H : Hp) (vs : List V) (Q : VK) (E : XK), (A.deeper (envOfC qual (defScope st) s.heap.objs.size f cdv)).guards = some [] → Room k (A.deeper (envOfC qual (defScope st) s.heap.objs.size f cdv)) → sp vs H Q E →
      ∃ t, PSs (cxOf CX0 P w K mg base N qual (defScope st) f cdv A outer s H E).nox (defBody st) t ∧ t { nx := fun _ H' => Q .non H', rt := Q } (start N vs) H) : FnG P w K mg base (k + 1) f fd ps sp := by
  obtain ⟨oc, od, kV, doc, pm, an, cdv, ct, osl, rfl, lk, hcd⟩ := F.ex
  exact calm_at lk hcd S many fun A outer s H vs Q E => walk cdv A outer s H vs Q E
end
section
variable {X : Cx} {k : Nat} {f : Addr} {fd : FuncData} {ps : List Str} {sp : Sp} {ds : List Value} {dvs : List V} {x : Str} {e : Expr} {es : List Expr} {t : TA} {p pos : Pos}
/-- f(e, ..) of such a def -/
theorem pe_calm (calm : X.A.guards = some []) (F : FnG X.prog X.w X.K X.mg X.base k f fd ps sp) (hr : Room k X.A) (hg : Gl X x) (hm : X.mg x = some (.ref f)) (hk : PySem.W.keepIn X.K (.ref f) = true) (hb : Binds X.K fd ps ds) (hd : Vals dvs ds)
    (ha : PA X (e :: es) t) (hdb : (x == ("__debug__" : Str)) = false := by decide) (he : starEach (e :: es) X.env = (false, eval e X.env) :: starEach es X.env := by rfl) (hpl : (backTo pos (starEach es X.env)).any (·.1) = false := by rfl) :
    PE X (.Call (.Name x p) (e :: es) [] pos) (tCall sp dvs E0 t) := by
  refine ⟨fun pins s σ H Q I h => wpAny_Call_Name_kw (ld_glob I hg hm (PySem.W.callWith_K (h₀ := X.base) I.ok.mod.kin hk (thn (ha.run pos pins s σ H _ I h) fun us s1 told => ?_) he hpl) hdb)⟩
  obtain ⟨vs, H1, I1, r, q⟩ := told
  refine ⟨I1.kIn, wpAny_call (codeAny_mono (F.go (args := ⟨us, []⟩) calm hr I1.env0 (hb s1 us I1.kIn ?_) (r.append hd) q) fun out s2 hq => ?_)⟩
  · rw [← (r.append hd).length]
    exact F.many q
  · match out, hq with
    | .error _, hq => exact hq.elim
    | .ok (.ret _), hq => exact I1.after hq
    | .ok .next, hq => exact hq.elim
    | .ok .brk, hq => exact hq.elim
    | .ok .cont, hq => exact hq.elim
end
/-! ### repr of what is read as data -/
section
variable {X : Cx}
def rRepD (K : PySem.W.Frag) : List V → Hp → VK → Prop := fun xs H Q => ∃ (a : Addr) (d : PyData), xs = [.ref a] ∧ Dp K H (.ref a) d ∧ d.showable = true ∧ d.hasDict = false ∧ d.depth ≤ 32 ∧ d.shown.length ≤ sizeLine ∧ Q (.str d.shown) H
theorem call_reprD (calm : X.A.guards = some []) (hu : X.A.units + 64 < cLine) : CallR X (.builtin "repr") (rRepD X.K) := by
  intro pins s σ H xs us Q I r h
  obtain ⟨a, d, rfl, hd, hs, hn, hdp, hl, q⟩ := h
  obtain ⟨u, rfl, ru⟩ := r.one
  obtain ⟨as, ra⟩ := Dp.reads I d _ _ hd ru
  obtain rfl : u = Value.ref a := ru
  refine repr_of_reads' ra hs (fun z => by rw [hn] at z; cases z) calm (by omega) (fun _ _ e => e) (fun h' t tk keep => ?_) hl
  exact ⟨.str _, H, I.kept keep, ⟨t, rfl⟩, q⟩
end
end L2
namespace RS
open PySem L2 LamX
/-! ### what a lambda's making leaves as it is: all but the tables -/
theorem RuleAt.extN {C : Addr} {H H' : Hp} {p g t o : Addr} {gs : List Int} {tl : Tl} (R : RuleAt C H p g t o gs tl) (e : ExtN H H') : RuleAt C H' p g t o gs tl :=
  ⟨let ⟨dx, h⟩ := R.ob; ⟨dx, e _ _ h (fun _ z => by cases z)⟩, e _ _ R.hg (fun _ z => by cases z), e _ _ R.ht (fun _ z => by cases z), e _ _ R.ho (fun _ z => by cases z), R.okG, R.okT⟩
theorem Tabs.same {T : List (Addr × Str)} {H H' : Hp} (t : Tabs T H) (s : Same H H') : Tabs T H' := fun p hp => by
  obtain ⟨ps, h1, h2, h3⟩ := t p hp
  exact ⟨ps, s _ _ h1, h2, fun pos cv h => by
    obtain ⟨c0, e1, e2⟩ := h3 pos cv h
    exact ⟨c0, e1, s _ _ e2⟩⟩
theorem Tabs.kx {T : List (Addr × Str)} {H H' : Hp} {a : Addr} {b : Nat} (t : Tabs T H) (R : Src H a b) (k : Kx a H H') : Tabs T H' := fun p hp => by
  obtain ⟨s0, s1, s2, ha, _⟩ := R.ex
  have ne : ∀ {c : Addr} {u : HO}, H c = some u → (∀ xs, u ≠ .lst xs) → c ≠ a := fun {c u} h n e => by
    rw [e, ha] at h
    exact n _ (Option.some.inj h).symm
  obtain ⟨ps, h1, h2, h3⟩ := t p hp
  exact ⟨ps, k _ _ (ne h1 (fun _ z => by cases z)) h1, h2, fun pos cv h => by
    obtain ⟨c0, e1, e2⟩ := h3 pos cv h
    exact ⟨c0, e1, k _ _ (ne e2 (fun _ z => by unfold CodeO at z; cases z)) e2⟩⟩
/-- a table that is empty -/
theorem tabs_one {P0 : Addr} {q : Str} {H : Hp} (h : H P0 = some (.tbl #[])) : Tabs [(P0, q)] H := fun p hp => by
  obtain rfl := List.mem_singleton.mp hp
  exact ⟨#[], h, trivial, fun pos cv z => by cases z⟩
end RS
namespace RS
open PySem L2 LamX Many
def klN : List Str := ["_law_script", "_law_cell", "_law_source", "_law_gaps_here", "_law_plan", "_law_odd"]
theorem scLaw : FnScope klN ["_law_script"] (defScope s_law) := ⟨rfl, rfl, rfl, by decide +kernel, rfl, by decide +kernel, by decide +kernel⟩
/-- a value that is no distance: what the law asks of it -/
structure OddL (K : PySem.W.Frag) (H : Hp) (x : V) (b1 b2 : Bool) : Prop where
  ne : ∀ H', ExtN H H' → ∀ Q : VK, Q (.bl b1) H' → Odd.rNeZ K x (.int 0) H' Q
  ib : ∀ H', ExtN H H' → ∀ Q : VK, Q (.bl b2) H' → rIsi K [x, .ty "bool"] H' Q
  d1 : ∀ H', ExtN H H' → BadN K H' 1 x
  d0 : ∀ H', ExtN H H' → (b1 = true ∨ b2 = true) → BadN K H' 0 x
  pl : Odd.Plain x
section
variable {K : PySem.W.Frag} {H : Hp} {x : V} {b1 b2 : Bool}
theorem OddL.later {H' : Hp} (o : OddL K H x b1 b2) (e : ExtN H H') : OddL K H' x b1 b2 := ⟨fun H2 e2 => o.ne H2 (e.trans e2), fun H2 e2 => o.ib H2 (e.trans e2), fun H2 e2 => o.d1 H2 (e.trans e2), fun H2 e2 => o.d0 H2 (e.trans e2), o.pl⟩
theorem OddL.go {σ : L2.St} {Q : VK} (o : OddL K H x b1 b2) (q : Q (.bl b1) H) : tC (V.int 0) σ H (fun y H2 => Odd.rNeZ K x y H2 Q) := o.ne H (ExtN.refl _) Q q
theorem OddL.gi {σ : L2.St} {Q : VK} (o : OddL K H x b1 b2) (q : Q (.bl b2) H) : tCons (tC (V.ty "bool")) tNil σ H (fun xs H2 => (fun vs H1 => rIsi K vs H1 Q) (x :: xs) H2) := o.ib H (ExtN.refl _) Q q
theorem oddL_of {tn : String} {d : PyData} (ty : ∀ H', ExtN H H' → TyX K H' x (.type tn)) (hk : tn = "bool" ∨ kitB tn "int" = some false) (hb : kitB tn "bool" = some b2) (dp : ∀ H', ExtN H H' → Dp K H' x d) (sd : SeqAt.shaped d = true) (hd : (!PyData.eqv d (.int 0)) = b1) (pl : Odd.Plain x) : OddL K H x b1 b2 :=
  ⟨fun H' e Q q => ⟨rfl, .inl ⟨d, dp H' e, sd, by rw [hd]; exact q⟩⟩, fun H' e Q q => ⟨_, _, _, _, _, rfl, .ty _, ty H' e, kit_ty (r := b2) hb, q⟩, fun H' e => .inl ⟨tn, ty H' e, hk⟩, fun H' e _ => .inl ⟨tn, ty H' e, hk⟩, pl⟩
theorem oddL_int {i : Int} (h : i ≤ 0) : OddL K H (.int i) (!(i == 0)) false :=
  ⟨fun H' _ Q q => ⟨rfl, .inl ⟨.int i, .int i, rfl, by rw [show PyData.eqv (.int i) (.int 0) = (i == 0) by simp [PyData.eqv]]; exact q⟩⟩, fun H' _ Q q => ⟨_, _, _, _, _, rfl, .ty _, .base (.int i), kit_ty (r := false) (by decide +kernel), q⟩, fun _ _ => .inr ⟨i, rfl, by omega⟩,
    fun _ _ z => .inr ⟨i, rfl, by
      rcases z with z | z
      · have ne : i ≠ 0 := fun e => by subst e; cases z
        omega
      · cases z⟩, True.intro⟩
theorem oddL_bl (b : Bool) : OddL K H (.bl b) b true := oddL_of (tn := "bool") (d := .bool b) (fun _ _ => .base (.bl b)) (.inl rfl) (by decide +kernel) (fun _ _ => .bl b) rfl (by cases b <;> simp [PyData.eqv]) True.intro
theorem oddL_non : OddL K H .non true false := oddL_of (tn := "NoneType") (d := .none) (fun _ _ => .base .non) (.inr (by decide +kernel)) (by decide +kernel) (fun _ _ => .non) rfl (by simp [PyData.eqv]) True.intro
theorem oddL_str : OddL K H (.str "3") true false := oddL_of (tn := "str") (d := .str "3") (fun _ _ => .base (.str _)) (.inr (by decide +kernel)) (by decide +kernel) (fun _ _ => .str _) (by decide +kernel) (by simp [PyData.eqv]) True.intro
theorem oddL_tup {a : Addr} (h : H a = some (.tup [.int 3])) : OddL K H (.ref a) true false := oddL_of (tn := "tuple") (d := .tuple [.int 3]) (fun _ e => .base (.tup (e _ _ h (fun _ z => by cases z)))) (.inr (by decide +kernel)) (by decide +kernel) (fun _ e => .tup (SqT.of (e _ _ h (fun _ z => by cases z))) (.cons (.int 3) .nil)) rfl (by simp [PyData.eqv]) True.intro
theorem oddL_lst {a : Addr} (h : H a = some (.lst [.int 3])) : OddL K H (.ref a) true false := oddL_of (tn := "list") (d := .list [.int 3]) (fun _ e => .base (.lst (e _ _ h (fun _ z => by cases z)))) (.inr (by decide +kernel)) (by decide +kernel) (fun _ e => .lst (SqL.of (e _ _ h (fun _ z => by cases z))) (.cons (.int 3) .nil)) rfl (by simp [PyData.eqv]) True.intro
theorem oddL_dct {a : Addr} (h : H a = some (.dK [])) : OddL K H (.ref a) true false :=
  have ty : ∀ H', ExtN H H' → TyX K H' (.ref a) (.type "dict") := fun _ e => .base (.dK (e _ _ h (fun _ z => by cases z)))
  ⟨fun H' e Q q => ⟨rfl, .inr ⟨a, [], rfl, e _ _ h (fun _ z => by cases z), q⟩⟩, fun H' e Q q => ⟨_, _, _, _, _, rfl, .ty _, ty H' e, kit_ty (r := false) (by decide +kernel), q⟩, fun H' e => .inl ⟨"dict", ty H' e, .inr (by decide +kernel)⟩, fun H' e _ => .inl ⟨"dict", ty H' e, .inr (by decide +kernel)⟩, True.intro⟩
end
section
variable {P : Program} {w : World} {K : PySem.W.Frag} {mg : Str → Option Value} {base : Heap}
def spLawT (K : PySem.W.Frag) (Tb : List (Addr × Str)) : Sp := fun vs H Q _ => ∃ (a : Addr) (ns : List Int), vs = [.ref a] ∧ SqL K H a (ns.map V.int) ∧ ns.length ≤ 63 ∧ Tabs Tb H ∧ ∀ H', Q (.bl true) H'
theorem ok_law {f c P0 C fI fCell fSrc fGs fTl fN fEr fSg fNd fCd fNr CSl CB CR : Addr} {fdI fdCell fdSrc fdGs fdTl fdN fdEr fdSg fdNd fdCd fdNr : FuncData} {oc kV doc pm ct : Value} {od an : Option Addr} {osl : Array (Option Value)} {Tb : List (Addr × Str)}
    (lk : K.lookup f = some ⟨oc, od, .func (PySem.W.fnOf "law" "law" (defArgs s_law) (defBody s_law) (defScope s_law) .none kV doc pm an (.ref c) ct), osl⟩) (hcd : PySem.W.codeIn K (.ref c) "law" = true) (T : Txt K mg C) (M : Mk K C fI)
    (TX : ErrTxt K mg CSl CB CR) (TB : TabB base mg c P0) (hmT : (P0, ("law.<locals>.<lambda>" : Str)) ∈ Tb) (hu : ∀ p ∈ Tb, p.1 = P0 → p.2 = ("law.<locals>.<lambda>" : Str))
    (Fs : Fun K "_law_error" "_law_error" s_law_error fEr fdEr) (bEr : L2.Binds K fdEr ["_law_ask"] []) (mEr : mg "_law_error" = some (.ref fEr))
    (GI : FnOk P w K mg base CX0 3 fI fdI ["self", "gaps", "tail"] (spInit C)) (bI : Binds K fdI ["self", "gaps", "tail"] [])
    (GCell : FnOk P w K mg base CX0 1 fCell fdCell ["_law_script", "_law_index"] (spCell K)) (bCell : Binds K fdCell ["_law_script", "_law_index"] []) (mCell : mg "_law_cell_at" = some (.ref fCell)) (kCell : PySem.W.keepIn K (.ref fCell) = true)
    (GSrc : FnOk P w K mg base CX0 1 fSrc fdSrc ["_law_cell"] spSrcOf) (bSrc : Binds K fdSrc ["_law_cell"] []) (mSrc : mg "_law_source_of" = some (.ref fSrc)) (kSrc : PySem.W.keepIn K (.ref fSrc) = true)
    (GGs : FnOk P w K mg base CX0 3 fGs fdGs ["_law_source"] spGps) (bGs : Binds K fdGs ["_law_source"] []) (mGs : mg "_law_gaps" = some (.ref fGs)) (kGs : PySem.W.keepIn K (.ref fGs) = true)
    (GTl : FnOk P w K mg base CX0 3 fTl fdTl ["_law_source", "_law_gaps_here", "_law_words"] spTl) (bTl : Binds K fdTl ["_law_source", "_law_gaps_here", "_law_words"] []) (mTl : mg "_law_tail" = some (.ref fTl)) (kTl : PySem.W.keepIn K (.ref fTl) = true)
    (GN : FnOk P w K mg base CX0 1 fN fdN ["_law_source", "_law_bound"] spNext) (bN : Binds K fdN ["_law_source", "_law_bound"] []) (mN : mg "_law_draw" = some (.ref fN)) (kN : PySem.W.keepIn K (.ref fN) = true)
    (GSg : FnOk P w K mg base (L2.CX P w) 4 fSg fdSg ["rule", "distance"] (spDisR K CSl)) (bSg : Binds K fdSg ["rule", "distance"] []) (mSg : mg "shared_attempts" = some (.ref fSg)) (kSg : PySem.W.keepIn K (.ref fSg) = true)
    (GNd : FnOk P w K mg base (L2.CX P w) 4 fNd fdNd ["rule", "distance"] (spDisR K CSl)) (bNd : Binds K fdNd ["rule", "distance"] []) (mNd : mg "next_distance" = some (.ref fNd)) (kNd : PySem.W.keepIn K (.ref fNd) = true)
    (GCR : FnOk P w K mg base (L2.CX P w) 4 fCd fdCd ["rule", "limit"] (spLimR K CB)) (GCd : FnOk P w K mg base CX0 8 fCd fdCd ["rule", "limit"] (spCd C)) (bCd : Binds K fdCd ["rule", "limit"] []) (mCd : mg "count_distances" = some (.ref fCd)) (kCd : PySem.W.keepIn K (.ref fCd) = true)
    (GNr : FnOk P w K mg base CX0 9 fNr fdNr ["_law_plan", "_law_apart"] (spNr C)) (bNr : Binds K fdNr ["_law_plan", "_law_apart"] []) (mNr : mg "_law_names_right" = some (.ref fNr)) (kNr : PySem.W.keepIn K (.ref fNr) = true) :
    FnG P w K mg base 10 f (PySem.W.fnOf "law" "law" (defArgs s_law) (defBody s_law) (defScope s_law) .none kV doc pm an (.ref c) ct) ["_law_script"] (spLawT K Tb) := by
  refine calm_at lk hcd scLaw (fun {vs H Q E} h => ?_) (fun A outer s H vs Q E calm hr h => ?_)
  · obtain ⟨a, ns, rfl, _⟩ := h
    rfl
  · obtain ⟨sc, ns, rfl, hs, hn63, hTb, k⟩ := h
    have hr1 := hr.mono (show 1 ≤ 9 by decide)
    have hr3 := hr.mono (show 3 ≤ 9 by decide)
    have hr4 := hr.mono (show 4 ≤ 9 by decide)
    have hr8 := hr.mono (show 8 ≤ 9 by decide)
    obtain ⟨ocs, ods, kVs, docs, pms, ans, cdvs, cts, osls, rfl, lks, hcds⟩ := Fs.ex
    obtain ⟨l, tr, σ1, hG, told⟩ := err_walk (X := (cxOf CX0 P w K mg base klN "law" (defScope s_law) f (.ref c) A outer s H E).nox) (q := "law.<locals>.<lambda>") (g := fEr) (cdg := cdvs) TX
    refine ⟨_, (pss_cons (ps_for PassesOwn.never rfl (pi_list (pe_op op_cat (pe_lst (pa_cons (pe_call GCell hr1 rfl mCell kCell bCell .nil pass0 (pa_cons (pv 0) (pa_cons pe_int pa_nil))) pa_nil)) (pe_slice sl_list (pv 0) (po_some pe_int) (po_some pe_int)))) (pg_name (i := 1) scLaw.nd rfl (Or.inl rfl)) (pss_cons (ps_set (i := 2) scLaw.nd rfl (Or.inl rfl) (pe_call GSrc hr1 rfl mSrc kSrc bSrc .nil pass0 (pa_cons (pv 1) pa_nil))) (pss_cons (ps_set (i := 3) scLaw.nd rfl (Or.inl rfl) (pe_call GGs hr3 rfl mGs kGs bGs .nil pass0 (pa_cons (pv 2) pa_nil))) (pss_cons (ps_set (i := 4) scLaw.nd rfl (Or.inr rfl) (pe_make M GI hr4 rfl T.mgC bI .nil pass0 (pa_cons (pv 3) (pa_cons (pe_call GTl hr3 rfl mTl kTl bTl .nil pass0 (pa_cons (pv 2) (pa_cons (pv 3) (pa_cons (pe_lst (pa_cons pe_str (pa_cons pe_str (pa_cons pe_str pa_nil)))) pa_nil)))) pa_nil)))) (Evl.pss_cut (ps_for PassesOwn.never rfl (pi_list (pe_lst (pa_cons (pe_un un_neg pe_int) (pa_cons pe_non (pa_cons pe_bl (pa_cons pe_str (pa_cons (pe_tup (pa_cons pe_int pa_nil)) (pa_cons (pe_lst (pa_cons pe_int pa_nil)) (pa_cons pe_dnewK (pa_cons (pe_op op_sub pe_int (pe_call GN hr1 rfl mN kN bN .nil pass0 (pa_cons (pv 2) (pa_cons (pe_op op_pow pe_int pe_int) pa_nil)))) (pa_cons pe_bl pa_nil))))))))))) (pg_name (i := 5) scLaw.nd rfl (Or.inr rfl))
            (Evl.pss_cut (ps_if (PW.pt (pw_or (pt_cmpR (Odd.op_neZ hr.units) (pv 5) pe_int (nomark _)) (pw_or1 (pt_val (pe_callB call_isi (by rfl) T.isi (by decide +kernel) (pa_cons (pv 5) (pa_cons (pe_bltn (v := .ty "bool") (by rfl) T.bool (by decide +kernel) rfl) pa_nil))))))) (pss_one (ps_if (pt_cmpR (Odd.op_neS hr.units) (pe_lamcall (T := Tb) (k := 7) (by rfl) mEr Fs.kp lks hcds bEr scErr rfl (.inl rfl) hG TB rfl hmT hu hr (lamS_by (by show lamSB (defScope s_law) _ = true; decide +kernel)) rfl (fun _ _ _ _ _ => rfl) (fun A2 o2 s2 H2 E2 f2 c2 hr2 => (pe_call (E := E2) GCR (hr2.mono (show 4 ≤ 7 by decide)) rfl mCd kCd bCd .nil (passUp (takes_of rfl rfl rfl rfl)) (pa_cons (pv 4) (pa_cons (pv 5) pa_nil))))) (pe_lst (pa_cons pe_str (pa_cons pe_str (pa_cons pe_bl (pa_cons pe_bl pa_nil))))) (nomark _)) (pss_one (ps_ret pe_bl)) pss_nil)) pss_nil) (Evl.pss_cut (ps_if (pt_cmpR (Odd.op_neS hr.units) (pe_lamcall (T := Tb) (k := 7) (by rfl) mEr Fs.kp lks hcds bEr scErr rfl (.inl rfl) hG TB rfl hmT hu hr (lamS_by (by show lamSB (defScope s_law) _ = true; decide +kernel)) rfl (fun _ _ _ _ _ => rfl) (fun A2 o2 s2 H2 E2 f2 c2 hr2 => (pe_call (E := E2) GSg (hr2.mono (show 4 ≤ 7 by decide)) rfl mSg kSg bSg .nil (passUp (takes_of rfl rfl rfl rfl)) (pa_cons (pv 4) (pa_cons (pv 5) pa_nil))))) (pe_lst (pa_cons pe_str (pa_cons (pv 5) (pa_cons pe_bl (pa_cons pe_bl pa_nil))))) (nomark _)) (pss_one (ps_ret pe_bl)) pss_nil) (pss_one (ps_if (pt_cmpR (Odd.op_neS hr.units) (pe_lamcall (T := Tb) (k := 7) (by rfl) mEr Fs.kp lks hcds bEr scErr rfl (.inl rfl) hG TB rfl hmT hu hr (lamS_by (by show lamSB (defScope s_law) _ = true; decide +kernel)) rfl (fun _ _ _ _ _ => rfl) (fun A2 o2 s2 H2 E2 f2 c2 hr2 => (pe_call (E := E2) GNd (hr2.mono (show 4 ≤ 7 by decide)) rfl mNd kNd bNd .nil (passUp (takes_of rfl rfl rfl rfl)) (pa_cons (pv 4) (pa_cons (pv 5) pa_nil))))) (pe_lst (pa_cons pe_str (pa_cons (pv 5) (pa_cons pe_bl (pa_cons pe_bl pa_nil))))) (nomark _)) (pss_one (ps_ret pe_bl)) pss_nil))))) (pss_one (ps_if (PW.pt (pw_or (pt_cmpR op_ne (pe_call GCd hr8 rfl mCd kCd bCd .nil pass0 (pa_cons (pv 4) (pa_cons pe_int pa_nil))) pe_int (nomark _)) (pw_or1 (pt_not (pt_val (pe_call GNr hr rfl mNr kNr bNr .nil pass0 (pa_cons (pv 4) (pa_cons (pe_op op_add pe_int (pe_call GN hr1 rfl mN kN bN .nil pass0 (pa_cons (pv 2) (pa_cons (pe_op op_pow pe_int pe_int) pa_nil)))) pa_nil)))))))) (pss_one (ps_ret pe_bl)) pss_nil))))))) (pss_one (ps_ret pe_bl))), ?_⟩
    -- the cells
    refine ⟨_, rfl, sc, ns, rfl, hs, (by show 1 ≤ sizeLine; decide), fun l1 hl1 => ?_⟩
    refine ⟨_, rfl, _, rfl, _, rfl, sc, _, rfl, (same_new hl1).seq hs, fun l2 hl2 => ?_⟩
    have hl1' := same_new (o := .lst (cutV (ns.map V.int) (some 1) (some 6))) hl2 _ _ (upd_same (H := H) (a := l1) (o := .lst [V.int (ns.getD 0 0)]))
    refine ⟨l1, l2, _, _, rfl, rfl, hl1', upd_same, ?_, fun L hL => ?_⟩
    · have := cutV_length (ns.map V.int) (some 1) (some 6)
      rw [List.length_map] at this
      exact Nat.le_of_lt (small1000 (by show 1 + _ ≤ 1000; omega))
    have ecs : [V.int (ns.getD 0 0)] ++ cutV (ns.map V.int) (some 1) (some 6) = (cellsOf 6 ns).map V.int := by
      rw [show (some (1 : Int)) = some ((1 : Nat) : Int) from rfl, show (some (6 : Int)) = some ((6 : Nat) : Int) from rfl, cut_mid]
      unfold cellsOf
      rw [List.map_cons, List.map_take, List.map_drop]
      rfl
    rw [ecs]
    have S0 := ((same_new (o := .lst [V.int (ns.getD 0 0)]) hl1).trans (same_new (o := .lst (cutV (ns.map V.int) (some 1) (some 6))) hl2)).trans (same_new (o := .lst ((cellsOf 6 ns).map V.int)) hL)
    have T0 := Tabs.same hTb S0
    have hL0 := upd_same (H := upd (upd H l1 (.lst [V.int (ns.getD 0 0)])) l2 (.lst (cutV (ns.map V.int) (some 1) (some 6)))) (a := L) (o := .lst ((cellsOf 6 ns).map V.int))
    generalize (upd (upd (upd H l1 (.lst [V.int (ns.getD 0 0)])) l2 (.lst (cutV (ns.map V.int) (some 1) (some 6)))) L (.lst ((cellsOf 6 ns).map V.int))) = H0 at T0 hL0 ⊢
    clear S0 hl1' hL ecs
    generalize cellsOf 6 ns = cs at hL0 ⊢
    refine ⟨L, rfl, ⟨_, SqL.of hL0⟩, for_list (a := L) (xs := cs.map V.int) (fun i σ H' => (∃ v1 v2 v3 v4 v5, σ = [some (.ref sc), v1, v2, v3, v4, v5]) ∧ H' L = some (.lst (cs.map V.int)) ∧ Tabs Tb H') ⟨⟨_, _, _, _, _, rfl⟩, hL0, T0⟩ (fun i σ H' _ p => SqL.of p.2.1) ?_ (fun σ H' p => k H')⟩
    clear hL0 T0
    rintro i x σ H0 hx ⟨⟨v1, v2, v3, v4, v5, rfl⟩, hL0, T0⟩
    obtain ⟨c, _, rfl⟩ := map_of hx
    clear hx
    refine ⟨_, rfl, c, rfl, fun a H1 ha S1 R1 => ?_⟩
    have nLa : L ≠ a := ne_of_none hL0 ha
    have hL1 := S1 _ _ hL0
    have T1 := Tabs.same T0 S1
    -- the gaps
    refine ⟨_, rfl, a, 0, rfl, R1, by omega, fun g gs H2 nga hg okG kx2 R2 => ?_⟩
    have hL2 := kx2 _ _ nLa hL1
    have T2 := Tabs.kx T1 R1 kx2
    clear kx2 R1 hL1 hL0 ha S1 T0 T1
    -- the tail
    refine ⟨_, rfl, _, rfl, _, rfl, (by show 3 ≤ sizeLine; decide), fun wl hwl => ?_⟩
    have sw := same_new (o := .lst [V.str "end", V.str "times", V.str "repeat"]) hwl
    refine ⟨a, g, wl, gs, ["end", "times", "repeat"], 40, rfl, R2.mono sw, by omega, nga, (R2.new hwl).symm, sw _ _ hg, okG, upd_same, ⟨by decide, by decide, fun z hz => ?_⟩, fun t tl H4 nta ht okT hword kx4 R4 => fun p dx hp hdx _ => ?_⟩
    · rcases List.mem_cons.mp hz with e | e
      · exact .inl e
      · rcases List.mem_cons.mp e with e | e
        · exact .inr (.inl e)
        · exact .inr (.inr (List.mem_singleton.mp e))
    have hg4 := kx4 _ _ nga (sw _ _ hg)
    have hL4 := kx4 _ _ nLa (sw _ _ hL2)
    have T4 := Tabs.kx (Tabs.same T2 sw) (R2.mono sw) kx4
    clear kx4 R2 hL2 hg sw hwl hword T2
    -- the rule
    have Sm : Same H4 (upd (upd H4 dx (.own p)) p (.ins C dx [])) := made_same hp hdx
    refine ⟨p, dx, g, t, gs, tl, rfl, upd_same, Sm _ _ hg4, Sm _ _ ht, okG, okT, fun g2 o H5 hg2 ho kp R5 => ⟨rfl, ?_⟩⟩
    have S5 : Same H4 H5 := fun b u e => kp b u (Sm _ _ e) (ne_of_none e hp)
    have Ra := R4.mono Sm
    have K5 : RK C H5 a p g2 t o gs tl := ⟨R5, (R4.new hp).symm, (Ra.new hg2).symm, nta, (Ra.new ho).symm⟩
    have hL5 := S5 _ _ hL4
    have R5' := R4.mono S5
    have T5 := Tabs.same T4 S5
    clear Sm hp hdx hg2 ho kp R5 S5 Ra hL4 R4 T4 ht hg4
    refine ⟨fun σ H' => (∃ v5, σ = [some (.ref sc), some (.int c), some (.ref a), some (.ref g), some (.ref p), v5]) ∧ RK C H' a p g2 t o gs tl ∧ H' L = some (.lst (cs.map V.int)) ∧ Tabs Tb H' ∧ ∃ b, Src H' a b ∧ b ≤ 60, ?_, ?_⟩
    · -- the odd ones
      refine ⟨_, rfl, (by show 1 ≤ sizeLine; decide), fun tu htu => ⟨(by show 1 ≤ sizeLine; decide), fun ml hml => fun qd hqd => ?_⟩⟩
      have s1 := same_new (o := .tup [V.int 3]) htu
      have htu1 := upd_same (H := H5) (a := tu) (o := .tup [V.int 3])
      generalize (upd H5 tu (.tup [V.int 3])) = H6 at hml hqd s1 htu1 ⊢
      have s2 := same_new (o := .lst [V.int 3]) hml
      have hml2 := upd_same (H := H6) (a := ml) (o := .lst [V.int 3])
      have htu2 := s2 _ _ htu1
      generalize (upd H6 ml (.lst [V.int 3])) = H7 at hqd s2 hml2 htu2 ⊢
      have s3 := same_new (o := .dK []) hqd
      have hqd3 := upd_same (H := H7) (a := qd) (o := .dK [])
      have htu3 := s3 _ _ htu2
      have hml3 := s3 _ _ hml2
      have s13 := (s1.trans s2).trans s3
      generalize (upd H7 qd (.dK [])) = H8 at s13 hqd3 htu3 hml3 ⊢
      have Sr8 := R5'.mono s13
      have K8 := K5.same s13
      have hL8 := s13 _ _ hL5
      have T8 := Tabs.same T5 s13
      clear s1 s2 s3 s13 htu1 htu2 hml2 htu hml hqd
      refine ⟨_, rfl, _, _, rfl, rfl, ⟨by decide, by decide, by decide⟩, a, (10 : Int) ^ (29 : Int).toNat, 50, rfl, Sr8, by omega, by decide, by decide, fun r H9 r0 r1 kx9 Sr9 => ⟨_, _, rfl, rfl, ?_⟩⟩
      have hL9 := kx9 _ _ nLa hL8
      have K9 := K8.kx kx9
      have T9 := Tabs.kx T8 Sr8 kx9
      have ntu : tu ≠ a := fun e => by
        obtain ⟨s0, s1, s2, e1, _⟩ := Sr8.ex
        rw [e, e1] at htu3
        cases htu3
      have nml : ml ≠ a := fun e => by
        obtain ⟨s0, s1, s2, e1, _⟩ := Sr8.ex
        rw [e, e1] at hml3
        cases hml3
      have nqd : qd ≠ a := fun e => by
        obtain ⟨s0, s1, s2, e1, _⟩ := Sr8.ex
        rw [e, e1] at hqd3
        cases hqd3
      have htu9 := kx9 _ _ ntu htu3
      have hml9 := kx9 _ _ nml hml3
      have hqd9 := kx9 _ _ nqd hqd3
      clear htu3 hml3 hqd3 kx9 T8 K8 hL8 Sr8 T5 R5' hL5 K5
      refine ⟨(by show 9 ≤ sizeLine; decide), fun L2 hL2 => ?_⟩
      have s9 := same_new (o := .lst [V.int (-1), .non, .bl true, .str "3", .ref tu, .ref ml, .ref qd, .int (0 - r), .bl false]) hL2
      have hL210 : (upd H9 L2 (.lst [V.int (-1), .non, .bl true, .str "3", .ref tu, .ref ml, .ref qd, .int (0 - r), .bl false])) L2 = some (.lst [V.int (-1), .non, .bl true, .str "3", .ref tu, .ref ml, .ref qd, .int (0 - r), .bl false]) := upd_same
      have htu10 := s9 _ _ htu9
      have hml10 := s9 _ _ hml9
      have hqd10 := s9 _ _ hqd9
      have K10 := K9.same s9
      have hL10 := s9 _ _ hL9
      have T10 := Tabs.same T9 s9
      have Sr10 := Sr9.mono s9
      show (fun x H1 => _) (V.ref L2) (upd H9 L2 (.lst [V.int (-1), .non, .bl true, .str "3", .ref tu, .ref ml, .ref qd, .int (0 - r), .bl false]))
      generalize (upd H9 L2 (.lst [V.int (-1), .non, .bl true, .str "3", .ref tu, .ref ml, .ref qd, .int (0 - r), .bl false])) = H10 at hL210 htu10 hml10 hqd10 K10 hL10 T10 Sr10 ⊢
      clear s9 htu9 hml9 hqd9 K9 hL9 T9 Sr9 hL2
      refine ⟨L2, rfl, ⟨_, SqL.of hL210⟩, for_list (a := L2) (xs := [V.int (-1), .non, .bl true, .str "3", .ref tu, .ref ml, .ref qd, .int (0 - r), .bl false]) (fun i σ H' => (∃ v5, σ = [some (.ref sc), some (.int c), some (.ref a), some (.ref g), some (.ref p), v5]) ∧ ExtN H10 H' ∧ Tabs Tb H') ⟨⟨_, rfl⟩, ExtN.refl _, T10⟩ (fun i σ H' _ z => SqL.of (z.2.1 _ _ hL210 (fun _ z => by cases z))) ?_ ?_⟩
      · rintro i x σ H11 hx ⟨⟨v5, rfl⟩, e11, t11⟩
        obtain ⟨b1, b2, oo⟩ : ∃ b1 b2, OddL K H10 x b1 b2 := by
          have hm := List.mem_of_getElem? hx
          simp only [List.mem_cons, List.not_mem_nil, or_false] at hm
          rcases hm with rfl | rfl | rfl | rfl | rfl | rfl | rfl | rfl | rfl
          · exact ⟨_, _, oddL_int (by decide)⟩
          · exact ⟨_, _, oddL_non⟩
          · exact ⟨_, _, oddL_bl true⟩
          · exact ⟨_, _, oddL_str⟩
          · exact ⟨_, _, oddL_tup htu10⟩
          · exact ⟨_, _, oddL_lst hml10⟩
          · exact ⟨_, _, oddL_dct hqd10⟩
          · exact ⟨_, _, oddL_int (by omega)⟩
          · exact ⟨_, _, oddL_bl false⟩
        have o11 := oo.later e11
        refine ⟨fun σ H' => σ = [some (.ref sc), some (.int c), some (.ref a), some (.ref g), some (.ref p), some x] ∧ ExtN H10 H' ∧ Tabs Tb H', ?_, ?_⟩
        · refine ⟨_, rfl, ?_⟩
          refine o11.go ⟨b1, rfl, ?_⟩
          cases b1 with
          | true =>
            refine iteT ?_
            refine ⟨t11, fun H12 e12 t12 => told _ _ _ fun E2 Q2 er => ?_⟩
            have bad := o11.d0 H12 e12 (.inl rfl)
            refine ⟨_, rfl, _, rfl, .ref p, x, rfl, bad, fun dE H13 hdE s13 hx13 => er _ _ _ ⟨dE, .str "limit", rfl, .inr ⟨rfl, hx13, fun LL H14 s14 hLL => ?_⟩⟩⟩
            refine ⟨(by show 4 ≤ sizeLine; decide), fun l3 hl3 => ?_⟩
            have s15 := same_new (o := .lst [V.str "bound", .str "limit", .bl true, .bl false]) hl3
            have e15 := e12.trans (ExtN.of ((s13.trans s14).trans s15))
            have t15 := Tabs.same t12 ((s13.trans s14).trans s15)
            refine ⟨LL, l3, [V.str "bound", .str "limit", .bl true, .bl false], rfl, rfl, SqL.of (s15 _ _ hLL), SqL.of upd_same, (fun v hv => ?_), _, rfl, iteFb rfl ⟨rfl, e11.trans e15, t15⟩⟩
            simp only [List.mem_cons, List.not_mem_nil, or_false] at hv
            rcases hv with rfl | rfl | rfl | rfl <;> exact True.intro
          | false =>
            refine iteF ?_
            refine ⟨_, rfl, o11.gi ⟨b2, rfl, ?_⟩⟩
            cases b2 with
            | true =>
              refine iteT ?_
              refine ⟨t11, fun H12 e12 t12 => told _ _ _ fun E2 Q2 er => ?_⟩
              have bad := o11.d0 H12 e12 (.inr rfl)
              refine ⟨_, rfl, _, rfl, .ref p, x, rfl, bad, fun dE H13 hdE s13 hx13 => er _ _ _ ⟨dE, .str "limit", rfl, .inr ⟨rfl, hx13, fun LL H14 s14 hLL => ?_⟩⟩⟩
              refine ⟨(by show 4 ≤ sizeLine; decide), fun l3 hl3 => ?_⟩
              have s15 := same_new (o := .lst [V.str "bound", .str "limit", .bl true, .bl false]) hl3
              have e15 := e12.trans (ExtN.of ((s13.trans s14).trans s15))
              have t15 := Tabs.same t12 ((s13.trans s14).trans s15)
              refine ⟨LL, l3, [V.str "bound", .str "limit", .bl true, .bl false], rfl, rfl, SqL.of (s15 _ _ hLL), SqL.of upd_same, (fun v hv => ?_), _, rfl, iteFb rfl ⟨rfl, e11.trans e15, t15⟩⟩
              simp only [List.mem_cons, List.not_mem_nil, or_false] at hv
              rcases hv with rfl | rfl | rfl | rfl <;> exact True.intro
            | false => exact iteF ⟨rfl, e11, t11⟩
        rintro _ H12 ⟨rfl, e12, t12⟩
        have o12 := oo.later e12
        refine ⟨fun σ H' => σ = [some (.ref sc), some (.int c), some (.ref a), some (.ref g), some (.ref p), some x] ∧ ExtN H10 H' ∧ Tabs Tb H', ?_, ?_⟩
        · refine ⟨t12, fun H13 e13 t13 => told _ _ _ fun E2 Q2 er => ?_⟩
          refine ⟨_, rfl, _, rfl, .ref p, x, rfl, o12.d1 H13 e13, fun dE H14 hdE s14 hx14 => er _ _ _ ⟨dE, x, rfl, .inl ⟨rfl, hx14, fun LL H15 s15 hLL => ?_⟩⟩⟩
          refine ⟨_, rfl, (by show 4 ≤ sizeLine; decide), fun l3 hl3 => ?_⟩
          have s16 := same_new (o := .lst [V.str "slot", x, .bl true, .bl false]) hl3
          have e16 := e13.trans (ExtN.of ((s14.trans s15).trans s16))
          have t16 := Tabs.same t13 ((s14.trans s15).trans s16)
          refine ⟨LL, l3, [V.str "slot", x, .bl true, .bl false], rfl, rfl, SqL.of (s16 _ _ hLL), SqL.of upd_same, (fun v hv => ?_), _, rfl, iteFb rfl ⟨rfl, e12.trans e16, t16⟩⟩
          simp only [List.mem_cons, List.not_mem_nil, or_false] at hv
          rcases hv with rfl | rfl | rfl | rfl
          · exact True.intro
          · exact oo.pl
          · exact True.intro
          · exact True.intro
        clear e12 t12 o12
        rintro _ H12 ⟨rfl, e12, t12⟩
        have o12 := oo.later e12
        refine ⟨t12, fun H13 e13 t13 => told _ _ _ fun E2 Q2 er => ?_⟩
        refine ⟨_, rfl, _, rfl, .ref p, x, rfl, o12.d1 H13 e13, fun dE H14 hdE s14 hx14 => er _ _ _ ⟨dE, x, rfl, .inl ⟨rfl, hx14, fun LL H15 s15 hLL => ?_⟩⟩⟩
        refine ⟨_, rfl, (by show 4 ≤ sizeLine; decide), fun l3 hl3 => ?_⟩
        have s16 := same_new (o := .lst [V.str "slot", x, .bl true, .bl false]) hl3
        have e16 := e13.trans (ExtN.of ((s14.trans s15).trans s16))
        have t16 := Tabs.same t13 ((s14.trans s15).trans s16)
        refine ⟨LL, l3, [V.str "slot", x, .bl true, .bl false], rfl, rfl, SqL.of (s16 _ _ hLL), SqL.of upd_same, (fun v hv => ?_), _, rfl, iteFb rfl ⟨⟨_, rfl⟩, e12.trans e16, t16⟩⟩
        simp only [List.mem_cons, List.not_mem_nil, or_false] at hv
        rcases hv with rfl | rfl | rfl | rfl
        · exact True.intro
        · exact oo.pl
        · exact True.intro
        · exact True.intro
      · rintro σ H11 ⟨⟨v5, rfl⟩, e11, t11⟩
        have Sr11 : Src H11 a (50 + 1) := by
          obtain ⟨s0, s1, s2, h1, h2⟩ := Sr10.ex
          exact ⟨s0, s1, s2, e11 _ _ h1 (fun _ z => by cases z), h2⟩
        exact ⟨⟨_, rfl⟩, ⟨K10.R.extN e11, K10.np, K10.ng, K10.nt, K10.no⟩, e11 _ _ hL10 (fun _ z => by cases z), t11, _, Sr11, by omega⟩
    clear K5 hL5 R5' T5
    rintro _ H6 ⟨⟨v5, rfl⟩, K6, hL6, T6, b, Sr6, hb⟩
    -- no distance up to 0, and the names
    have okT' := okT
    refine ⟨_, rfl, p, g2, t, o, gs, tl, 0, rfl, K6.R, by omega, by decide, fun n H7 hN S7 => ?_⟩
    have n0 : n = 0 := hN.one (NumD.zero okG okT (by decide))
    subst n0
    have Sr7 := Sr6.mono S7
    have K7 := K6.same S7
    have hL7 := S7 _ _ hL6
    have T7 := Tabs.same T6 S7
    refine ⟨rfl, _, rfl, iteFb (by simp) ?_⟩
    refine ⟨_, rfl, _, rfl, _, _, rfl, rfl, ⟨by decide, by decide, by decide⟩, a, (10 : Int) ^ (9 : Int).toNat, b, rfl, Sr7, by omega, by decide, by decide, fun r H8 r0 r1 kx8 Sr8 => ⟨_, _, rfl, rfl, ?_⟩⟩
    have e9 : (10 : Int) ^ (9 : Int).toNat = 1000000000 := by decide
    have K8 := K7.kx kx8
    refine ⟨p, g2, t, o, gs, tl, 1 + r, rfl, K8.R, by omega, by omega, fun H9 S9 => ⟨true, rfl, iteF ?_⟩⟩
    exact ⟨⟨_, _, _, _, _, rfl⟩, S9 _ _ (kx8 _ _ nLa hL7), Tabs.same (Tabs.kx T7 Sr7 kx8) S9⟩
end
end RS
/-! ### the law is called where nothing is being shown -/
namespace LamX
open PySem PySem.Spec PyProof.Rows L2
/-- what is tracked as the law begins: the tables, and the script unless it is one of the module's own objects -/
def laid (K : PySem.W.Frag) (T : List Addr) (a : Addr) (o : Obj) (xs : List V) : Hp := fun b =>
  if b ∈ T then some (.tbl #[]) else if b = a ∧ K.lookup a = none then some (.frz o (.lst xs)) else none
section
variable {K : PySem.W.Frag} {T : List Addr} {a b : Addr} {o : Obj} {xs : List V}
theorem laid_tab (h : b ∈ T) : laid K T a o xs b = some (.tbl #[]) := if_pos h
theorem laid_scr (h : a ∉ T) (k : K.lookup a = none) : laid K T a o xs a = some (.frz o (.lst xs)) := (if_neg h).trans (if_pos ⟨rfl, k⟩)
theorem laid_is {u : HO} (h : laid K T a o xs b = some u) : (b ∈ T ∧ u = .tbl #[]) ∨ (b = a ∧ K.lookup a = none ∧ u = .frz o (.lst xs)) := by
  unfold laid at h
  split at h
  · exact .inl ⟨‹_›, (Option.some.inj h).symm⟩
  · split at h
    · exact .inr ⟨‹_ ∧ _›.1, ‹_ ∧ _›.2, (Option.some.inj h).symm⟩
    · cases h
end
/-- what the start of a row gives -/
structure Start (P : Program) (K : PySem.W.Frag) (mg mb : Str → Option Value) (cs : List (Addr × Addr)) (a : Addr) (vs : List Value) (ns : List Int) (s : Shared) : Prop where
  kin : K.In s.heap
  ns1 : s.heap.Ns mainGlobals mg
  ns2 : s.heap.Ns builtinsNs mb
  boot : ∀ x : Str, x ≠ "__name__" → mb x = bootBuiltins x
  free : s.heap.NoLimit
  gens : s.gens = #[]
  tab : ∀ p ∈ cs, s.heap.get? p.2 = some { cls := .none, data := .fields #[] }
  own : ∀ p ∈ cs, K.lookup p.2 = none
  code : ∀ p ∈ cs, PySem.W.CodeHd s.heap p.1 p.2
  bm : ∃ (bm : Addr) (ob : Obj), mg "__builtins__" = some (.ref bm) ∧ bm ≠ builtinsNs ∧ s.heap.get? bm = some ob ∧ ob.cls = .type "module" ∧ ob.dict = some builtinsNs ∧ ob.data = .plain
  scr : s.heap.get? a = some { cls := .type "list", data := .seq vs.toArray }
  who : IntsAre vs ns
  len : ns.length ≤ sizeLine
section
variable {P : Program} {w : World} {K : PySem.W.Frag} {mg mb : Str → Option Value} {cs : List (Addr × Addr)} {a : Addr} {vs : List Value} {ns : List Int} {s : Shared}
theorem Start.tabAt (S : Start P K mg mb cs a vs ns s) {b : Addr} (h : b ∈ cs.map (·.2)) : s.heap.get? b = some { cls := .none, data := .fields #[] } := by
  obtain ⟨p, hp, rfl⟩ := List.mem_map.mp h
  exact S.tab p hp
theorem Start.noT (S : Start P K mg mb cs a vs ns s) : a ∉ cs.map (·.2) := fun h => by
  have e := S.scr.symm.trans (S.tabAt h)
  cases e
/-- nothing else is tracked -/
theorem Start.open' (S : Start P K mg mb cs a vs ns s) {o : Obj} {xs : List V} {b : Addr} {ob : Obj} (e : s.heap.get? b = some ob) (h1 : ∀ zs n, ob.data ≠ .seq zs n) (h2 : ob.data ≠ .fields #[]) : laid K (cs.map (·.2)) a o xs b = none := by
  cases q : laid K (cs.map (·.2)) a o xs b with
  | none => rfl
  | some u =>
    rcases laid_is q with ⟨hb, _⟩ | ⟨rfl, _, _⟩
    · rw [S.tabAt hb] at e
      cases e
      exact (h2 rfl).elim
    · rw [S.scr] at e
      cases e
      exact (h1 _ _ rfl).elim
theorem Start.seen (S : Start P K mg mb cs a vs ns s) {o : Obj} {xs : List V} {b : Addr} {m : Str → Option Value} (h : s.heap.Ns b m) : (hidT s.heap (laid K (cs.map (·.2)) a o xs)).Ns b m := by
  obtain ⟨ob, es, ep, e, d, r⟩ := h
  exact ⟨ob, es, ep, hidT_get e (S.open' e (fun zs n z => by rw [d] at z; cases z) fun z => by rw [d] at z; cases z), d, r⟩
theorem Start.kinT (S : Start P K mg mb cs a vs ns s) {o : Obj} {xs : List V} : K.In (hidT s.heap (laid K (cs.map (·.2)) a o xs)) := fun b ob e => by
  refine hidT_get (S.kin b ob e) ?_
  cases q : laid K (cs.map (·.2)) a o xs b with
  | none => rfl
  | some u =>
    rcases laid_is q with ⟨hb, _⟩ | ⟨rfl, k, _⟩
    · obtain ⟨p, hp, rfl⟩ := List.mem_map.mp hb
      have := S.own p hp
      rw [this] at e
      cases e
    · rw [k] at e
      cases e
theorem Start.tabs (S : Start P K mg mb cs a vs ns s) {o : Obj} {xs : List V} : ∀ p ∈ cs, TabB (hidT s.heap (laid K (cs.map (·.2)) a o xs)) mg p.1 p.2 := fun p hp => by
  have hT := S.tab p hp
  obtain ⟨og, eg, ng, gg, dg, _⟩ := S.ns1
  refine ⟨?_, ?_, fun z => ?_⟩
  · obtain ⟨ob, us, file, tf, flags, tg, inF, text, tt, e1, r1, r2, r3, rest⟩ := S.code p hp
    refine ⟨ob, us, file, tf, flags, tg, inF, text, tt, hidT_get e1 (S.open' e1 (fun zs n z => by rw [r2] at z; cases z) fun z => ?_), r1, r2, r3, rest⟩
    rw [r2] at z
    cases z
    simp at r3
  · obtain ⟨bm, ob, b1, b2, b3, b4, b5, b6⟩ := S.bm
    refine ⟨bm, ob, b1, b2, fun z => ?_, fun z => ?_, hidT_get b3 (S.open' b3 (fun zs n z => by rw [b6] at z; cases z) fun z => by rw [b6] at z; cases z), b4, b5, b6⟩
    · subst z
      rw [gg] at b3
      cases b3
      rw [dg] at b6
      cases b6
    · subst z
      rw [hT] at b3
      cases b3
      cases b6
  · rw [z, hT] at gg
    cases gg
    cases dg
theorem Start.hok (S : Start P K mg mb cs a vs ns s) : HOk P w (laid K (cs.map (·.2)) a { cls := .type "list", data := .seq vs.toArray } (ns.map V.int)) s.heap := fun b u e => by
  rcases laid_is e with ⟨hb, rfl⟩ | ⟨rfl, _, rfl⟩
  · exact S.tabAt hb
  · exact ⟨S.scr, by rw [List.length_map]; exact S.len, vs, _, vals_ints S.who, S.scr⟩
theorem Start.script (S : Start P K mg mb cs a vs ns s) : SqL K (laid K (cs.map (·.2)) a { cls := .type "list", data := .seq vs.toArray } (ns.map V.int)) a (ns.map V.int) := by
  cases k : K.lookup a with
  | none => exact .inl (.inr ⟨_, laid_scr S.noT k⟩)
  | some o =>
    have e := (S.kin a o k).symm.trans S.scr
    cases e
    exact .inr ⟨_, vs.toArray, _, k, rfl, rfl, rfl, by rw [List.size_toArray, S.who.length]; exact S.len, by simpa using vals_ints S.who⟩
theorem law_calm {k : Nat} {fa : Addr} {fd : FuncData} {x : Str} {sp : Sp} (S : Start P K mg mb cs a vs ns s) (hr : Room k callerA)
    (F : ∀ base : Heap, K.In base → base.Ns mainGlobals mg → (∀ p ∈ cs, TabB base mg p.1 p.2) → FnG P w K mg base k fa fd [x] sp) (hbind : ∀ (s : Shared) (u : Value), BindsTo s fd ⟨[u], []⟩ [(x, u)])
    (hsp : ∀ H : Hp, (∀ p ∈ cs, H p.2 = some (.tbl #[])) → SqL K H a (ns.map V.int) → sp [.ref a] H (fun v _ => v = .bl true) fun _ _ _ => False) :
    codeAny (model P w) callerA (.call (.ref fa) ⟨[.ref a], []⟩) (fun r s' => r = .ok (.ret (.bool true)) ∧ OldK s.heap s'.heap ∧ s'.os = s.os ∧ AllBare s'.gens) s := by
  have inT : ∀ p ∈ cs, p.2 ∈ cs.map (·.2) := fun p hp => List.mem_map.mpr ⟨p, hp, rfl⟩
  have e0 : Env0 P w K mg (hidT s.heap (laid K (cs.map (·.2)) a { cls := .type "list", data := .seq vs.toArray } (ns.map V.int))) callerA [] s (laid K (cs.map (·.2)) a { cls := .type "list", data := .seq vs.toArray } (ns.map V.int)) :=
    ⟨rfl, ⟨S.kinT, S.seen S.ns1, ⟨mb, S.seen S.ns2, S.boot⟩, let ⟨mc, h1, h2⟩ := S.free; ⟨mc, S.seen h1, h2⟩⟩, fun b o e => of_hidT e, Nat.le_of_eq (hidT_size _ _), trivial, (fun b hb => nomatch hb), S.hok, .of_eq S.gens⟩
  refine codeAny_mono ((F _ S.kinT (S.seen S.ns1) S.tabs).go (us := [.ref a]) (vs := [.ref a]) rfl hr e0 (hbind s (.ref a)) (.cons rfl .nil) (hsp _ (fun p hp => laid_tab (inT p hp)) S.script)) fun out s' told => ?_
  match out, told with
  | .error _, told => exact told.elim
  | .ok .next, told => exact told.elim
  | .ok .brk, told => exact told.elim
  | .ok .cont, told => exact told.elim
  | .ok (.ret u), ⟨v, H', os, bare, un, hok', ru, q⟩ =>
    have q : v = .bl true := q
    subst q
    obtain rfl : u = Value.bool true := ru
    have kept : ∀ b o, b ∉ cs.map (·.2) → s.heap.get? b = some o → s'.heap.get? b = some o := fun b o nb e => by
      cases q : laid K (cs.map (·.2)) a { cls := .type "list", data := .seq vs.toArray } (ns.map V.int) b with
      | none => exact un.keep b o e q (fun z => nomatch z) (fun z => nomatch z)
      | some u =>
        rcases laid_is q with ⟨hb, _⟩ | ⟨rfl, _, rfl⟩
        · exact absurd hb nb
        · have z := (hok' b _ (un.frzs b _ _ q)).1
          rw [S.scr] at e
          cases e
          exact z
    have more : ∀ p ∈ cs, ∃ m : Array Value, s'.heap.get? p.2 = some { cls := .none, data := .fields m } := fun p hp => by
      obtain ⟨m, z⟩ := un.tbls p.2 #[] (laid_tab (inT p hp))
      exact ⟨_, hok' p.2 _ z⟩
    refine ⟨rfl, ⟨fun b o e => ?_, fun b o e => ?_⟩, os, bare⟩
    · by_cases hb : b ∈ cs.map (·.2)
      · obtain ⟨p, hp, rfl⟩ := List.mem_map.mp hb
        obtain ⟨m, hm⟩ := more p hp
        rw [S.tab p hp] at e
        cases e
        exact .inr (.inl ⟨((S.code p hp).tab (S.tab p hp)).isCodeTable, rfl, #[], m, rfl, by rw [Array.empty_append]; exact hm⟩)
      · exact .inl (kept b o hb e)
    · by_cases hb : b ∈ cs.map (·.2)
      · obtain ⟨p, hp, rfl⟩ := List.mem_map.mp hb
        obtain ⟨m, hm⟩ := more p hp
        exact ⟨_, hm⟩
      · exact ⟨o, kept b o hb e⟩
end
/-- what must be known of the law at the head's heap h -/
def LawCalm (l : PySem.W.OpenLaw) (w : World) (K : PySem.W.Frag) (k n : Nat) (x : Str) (mg : Str → Option Value) (fa : Addr) (h : Heap) : Prop :=
  ∃ (fd : FuncData) (cs : List (Addr × Addr)) (sp : Sp), (∀ p ∈ cs, h.get? p.2 = some { cls := .none, data := .fields #[] } ∧ K.lookup p.2 = none ∧ PySem.W.CodeHd h p.1 p.2) ∧ (∀ (s : Shared) (u : Value), BindsTo s fd ⟨[u], []⟩ [(x, u)]) ∧
    (∀ (H : Hp) (a : Addr) (ns : List Int), ns.length ≤ n → (∀ p ∈ cs, H p.2 = some (.tbl #[])) → SqL K H a (ns.map V.int) → sp [.ref a] H (fun v _ => v = .bl true) fun _ _ _ => False) ∧
    ∀ base : Heap, K.In base → base.Ns mainGlobals mg → (∀ p ∈ cs, TabB base mg p.1 p.2) → FnG l.prog w K mg base k fa fd [x] sp
theorem walk_calm {l : PySem.W.OpenLaw} {n k : Nat} {q : Program} {loose : List Str} {XP : (Str → Option Value) → Heap → Prop} {YP : World → Heap → Prop} {d : DefRec} {K : Params → PySem.W.Frag} {x : Str}
    (hn : l.most = some n) (hn2 : n ≤ sizeLine) (hdf : d.params.defaults = []) (hr : Room k callerA) (hY : ∀ (w : World) (h : Heap), YP w h → (K w.params).In h)
    (F : ∀ (w : World) (mg : Str → Option Value) (fa : Addr) (h : Heap), YP w h → (K w.params).In h → h.Ns mainGlobals mg → mg d.name = some (.ref fa) → XP mg h → LawCalm l w (K w.params) k n x mg fa h) :
    PySem.W.WalkO q loose XP YP l.row.toRowW d [] (fun f vs => PySem.call f vs) := by
  refine Att.attach_callB hn hdf fun w s0 s1 mg mb fa o pm cd doc a vs ns G Y ho hd hcd hmg hobj hints hlen hbits hg => ?_
  obtain ⟨fd, cs, sp, hT, hb, hsp, hF⟩ := F w mg fa _ Y (hY w _ Y) G.T.g hmg G.X
  exact law_calm (mb := mb) ⟨hY w _ Y, G.T.g, G.T.b, G.T.builtins, G.T.nolimit, hg, fun p hp => (hT p hp).1, fun p hp => (hT p hp).2.1, fun p hp => (hT p hp).2.2, G.T.bmain, hobj, hints, Nat.le_trans hlen hn2⟩ hr hF hb fun H hH hS => hsp H a ns hlen hH hS
end LamX
namespace RS
open PySem L2
open PySem.W (fnOf)
theorem et_InvalidAttempt {K : PySem.W.Frag} {h : Heap} {mg : Str → Option Value} {C f N R : Addr} (X : K.In h) (G : h.Ns mainGlobals mg)
    {nm q : Str} {bs : List Value} {sn : List Str} {sub : List Value} {ab : Bool} {col : Option Bool} {dd : Option Addr} {m0 m1 m2 m3 m5 : Option Value} {od an : Option Addr} {sl : Array (Option Value)} {oc dc pm cd ct : Value}
    (aC : PySem.W.nsIn K mainGlobals "InvalidAttempt" = some (some (.ref C)))
    (xL : K.lookup C = some (excClassObj nm q C N bs [.ref R, .type "ArithmeticError", .type "Exception", .type "BaseException", .type "object"] true sn sub ab col dd m0 m1 m2 m3 m5 "ArithmeticError.__new__"))
    (sa : PySem.W.findIn K (.ref C) "__setattr__" = some (some (.builtin "object.__setattr__")))
    (ga : PySem.W.findIn K (.ref C) "__getattribute__" = some (some (.builtin "BaseException.__getattribute__")))
    (gg : PySem.W.findIn K (.ref C) "__getattr__" = some none)
    (n0 : PySem.W.findIn K (.ref C) "attempt" = some none)
    (ov : PySem.W.excOver K C [.type "ArithmeticError", .type "Exception", .type "BaseException", .type "object"] = true)
    (k0 : PySem.W.takerIn K C "attempt" = some none)
    (a1 : PySem.W.findIn K (.ref C) "__init__" = some (some (.ref f)))
    (t1 : PySem.W.typeIn K (.ref f) = some (.type "function"))
    (l1 : K.lookup f = some ⟨oc, od, .func (PySem.W.fnOf "__init__" "InvalidAttempt.__init__" (defArgs s_InvalidAttempt_ddinitdd) (defBody s_InvalidAttempt_ddinitdd) (defScope s_InvalidAttempt_ddinitdd) .none .none dc pm an cd ct), sl⟩) (c1 : PySem.W.codeIn K cd "InvalidAttempt.__init__" = true)
    (kC : PySem.W.keepIn K (.ref C) = true) (eC : PySem.W.subIn K (.ref C) (.type "BaseException") = some true) (tC : PySem.W.typeIn K (.ref C) = some (.type "type")) (hC : PySem.W.hasDictIn K C = true)
    (ca : PySem.W.findIn K (.ref C) "__class__" = some (some (.builtin "object.__class__"))) (cn : PySem.W.specialIn K (.builtin "object.__class__") "__get__" = some (some (.builtin "getset_descriptor.__get__"))) (ct2 : PySem.W.takesIn K (.builtin "object.__class__") = some true) (cm : PySem.W.mroIn K C (.type "object") = some true) :
    ErX.ErTxt K mg "InvalidAttempt" "InvalidAttempt.__init__" "attempt" C f ∧ ErCls K C := by
  refine ⟨⟨PySem.W.mg_of X G aC, ⟨_, _, _, _, _, _, _, _, _, _, _, _, _, _, _, xL, fun X => ?_⟩, sa, ga, gg, n0, ov, k0, a1, t1, kC, eC, tC, hC, ⟨oc, od, dc, pm, an, cd, ct, sl, _, _, _, _, _, _, l1, c1⟩, (by intros; (first | rfl | decide | with_unfolding_all rfl | kernel_rfl)), (by intros; (first | rfl | decide | with_unfolding_all rfl | kernel_rfl)), (by intros; (first | rfl | decide | with_unfolding_all rfl | kernel_rfl)), (by intros; (first | rfl | decide | with_unfolding_all rfl | kernel_rfl)), (by intros; (first | rfl | decide | with_unfolding_all rfl | kernel_rfl)), (by intros; (first | rfl | decide | with_unfolding_all rfl | kernel_rfl)), (by intros; (first | rfl | decide | with_unfolding_all rfl | kernel_rfl))⟩, ⟨?_, ga, gg, eC, hC, ca, cn, ct2, cm⟩⟩
  · rw [List.contains_cons]
    rfl
  · unfold PySem.W.clsIn
    rw [xL] <;> rfl
theorem et_InvalidSlot {K : PySem.W.Frag} {h : Heap} {mg : Str → Option Value} {C f N R : Addr} (X : K.In h) (G : h.Ns mainGlobals mg)
    {nm q : Str} {bs : List Value} {sn : List Str} {sub : List Value} {ab : Bool} {col : Option Bool} {dd : Option Addr} {m0 m1 m2 m3 m5 : Option Value} {od an : Option Addr} {sl : Array (Option Value)} {oc dc pm cd ct : Value}
    (aC : PySem.W.nsIn K mainGlobals "InvalidSlot" = some (some (.ref C)))
    (xL : K.lookup C = some (excClassObj nm q C N bs [.ref R, .type "ArithmeticError", .type "Exception", .type "BaseException", .type "object"] true sn sub ab col dd m0 m1 m2 m3 m5 "ArithmeticError.__new__"))
    (sa : PySem.W.findIn K (.ref C) "__setattr__" = some (some (.builtin "object.__setattr__")))
    (ga : PySem.W.findIn K (.ref C) "__getattribute__" = some (some (.builtin "BaseException.__getattribute__")))
    (gg : PySem.W.findIn K (.ref C) "__getattr__" = some none)
    (n0 : PySem.W.findIn K (.ref C) "slot" = some none)
    (ov : PySem.W.excOver K C [.type "ArithmeticError", .type "Exception", .type "BaseException", .type "object"] = true)
    (k0 : PySem.W.takerIn K C "slot" = some none)
    (a1 : PySem.W.findIn K (.ref C) "__init__" = some (some (.ref f)))
    (t1 : PySem.W.typeIn K (.ref f) = some (.type "function"))
    (l1 : K.lookup f = some ⟨oc, od, .func (PySem.W.fnOf "__init__" "InvalidSlot.__init__" (defArgs s_InvalidSlot_ddinitdd) (defBody s_InvalidSlot_ddinitdd) (defScope s_InvalidSlot_ddinitdd) .none .none dc pm an cd ct), sl⟩) (c1 : PySem.W.codeIn K cd "InvalidSlot.__init__" = true)
    (kC : PySem.W.keepIn K (.ref C) = true) (eC : PySem.W.subIn K (.ref C) (.type "BaseException") = some true) (tC : PySem.W.typeIn K (.ref C) = some (.type "type")) (hC : PySem.W.hasDictIn K C = true)
    (ca : PySem.W.findIn K (.ref C) "__class__" = some (some (.builtin "object.__class__"))) (cn : PySem.W.specialIn K (.builtin "object.__class__") "__get__" = some (some (.builtin "getset_descriptor.__get__"))) (ct2 : PySem.W.takesIn K (.builtin "object.__class__") = some true) (cm : PySem.W.mroIn K C (.type "object") = some true) :
    ErX.ErTxt K mg "InvalidSlot" "InvalidSlot.__init__" "slot" C f ∧ ErCls K C := by
  refine ⟨⟨PySem.W.mg_of X G aC, ⟨_, _, _, _, _, _, _, _, _, _, _, _, _, _, _, xL, fun X => ?_⟩, sa, ga, gg, n0, ov, k0, a1, t1, kC, eC, tC, hC, ⟨oc, od, dc, pm, an, cd, ct, sl, _, _, _, _, _, _, l1, c1⟩, (by intros; (first | rfl | decide | with_unfolding_all rfl | kernel_rfl)), (by intros; (first | rfl | decide | with_unfolding_all rfl | kernel_rfl)), (by intros; (first | rfl | decide | with_unfolding_all rfl | kernel_rfl)), (by intros; (first | rfl | decide | with_unfolding_all rfl | kernel_rfl)), (by intros; (first | rfl | decide | with_unfolding_all rfl | kernel_rfl)), (by intros; (first | rfl | decide | with_unfolding_all rfl | kernel_rfl)), (by intros; (first | rfl | decide | with_unfolding_all rfl | kernel_rfl))⟩, ⟨?_, ga, gg, eC, hC, ca, cn, ct2, cm⟩⟩
  · rw [List.contains_cons]
    rfl
  · unfold PySem.W.clsIn
    rw [xL] <;> rfl
theorem et_InvalidBound {K : PySem.W.Frag} {h : Heap} {mg : Str → Option Value} {C f N R : Addr} (X : K.In h) (G : h.Ns mainGlobals mg)
    {nm q : Str} {bs : List Value} {sn : List Str} {sub : List Value} {ab : Bool} {col : Option Bool} {dd : Option Addr} {m0 m1 m2 m3 m5 : Option Value} {od an : Option Addr} {sl : Array (Option Value)} {oc dc pm cd ct : Value}
    (aC : PySem.W.nsIn K mainGlobals "InvalidBound" = some (some (.ref C)))
    (xL : K.lookup C = some (excClassObj nm q C N bs [.ref R, .type "ArithmeticError", .type "Exception", .type "BaseException", .type "object"] true sn sub ab col dd m0 m1 m2 m3 m5 "ArithmeticError.__new__"))
    (sa : PySem.W.findIn K (.ref C) "__setattr__" = some (some (.builtin "object.__setattr__")))
    (ga : PySem.W.findIn K (.ref C) "__getattribute__" = some (some (.builtin "BaseException.__getattribute__")))
    (gg : PySem.W.findIn K (.ref C) "__getattr__" = some none)
    (n0 : PySem.W.findIn K (.ref C) "part" = some none)
    (ov : PySem.W.excOver K C [.type "ArithmeticError", .type "Exception", .type "BaseException", .type "object"] = true)
    (k0 : PySem.W.takerIn K C "part" = some none)
    (a1 : PySem.W.findIn K (.ref C) "__init__" = some (some (.ref f)))
    (t1 : PySem.W.typeIn K (.ref f) = some (.type "function"))
    (l1 : K.lookup f = some ⟨oc, od, .func (PySem.W.fnOf "__init__" "InvalidBound.__init__" (defArgs s_InvalidBound_ddinitdd) (defBody s_InvalidBound_ddinitdd) (defScope s_InvalidBound_ddinitdd) .none .none dc pm an cd ct), sl⟩) (c1 : PySem.W.codeIn K cd "InvalidBound.__init__" = true)
    (kC : PySem.W.keepIn K (.ref C) = true) (eC : PySem.W.subIn K (.ref C) (.type "BaseException") = some true) (tC : PySem.W.typeIn K (.ref C) = some (.type "type")) (hC : PySem.W.hasDictIn K C = true)
    (ca : PySem.W.findIn K (.ref C) "__class__" = some (some (.builtin "object.__class__"))) (cn : PySem.W.specialIn K (.builtin "object.__class__") "__get__" = some (some (.builtin "getset_descriptor.__get__"))) (ct2 : PySem.W.takesIn K (.builtin "object.__class__") = some true) (cm : PySem.W.mroIn K C (.type "object") = some true) :
    ErX.ErTxt K mg "InvalidBound" "InvalidBound.__init__" "part" C f ∧ ErCls K C := by
  refine ⟨⟨PySem.W.mg_of X G aC, ⟨_, _, _, _, _, _, _, _, _, _, _, _, _, _, _, xL, fun X => ?_⟩, sa, ga, gg, n0, ov, k0, a1, t1, kC, eC, tC, hC, ⟨oc, od, dc, pm, an, cd, ct, sl, _, _, _, _, _, _, l1, c1⟩, (by intros; (first | rfl | decide | with_unfolding_all rfl | kernel_rfl)), (by intros; (first | rfl | decide | with_unfolding_all rfl | kernel_rfl)), (by intros; (first | rfl | decide | with_unfolding_all rfl | kernel_rfl)), (by intros; (first | rfl | decide | with_unfolding_all rfl | kernel_rfl)), (by intros; (first | rfl | decide | with_unfolding_all rfl | kernel_rfl)), (by intros; (first | rfl | decide | with_unfolding_all rfl | kernel_rfl)), (by intros; (first | rfl | decide | with_unfolding_all rfl | kernel_rfl))⟩, ⟨?_, ga, gg, eC, hC, ca, cn, ct2, cm⟩⟩
  · rw [List.contains_cons]
    rfl
  · unfold PySem.W.clsIn
    rw [xL] <;> rfl
theorem et_LimitExceeded {K : PySem.W.Frag} {h : Heap} {mg : Str → Option Value} {C f N R : Addr} (X : K.In h) (G : h.Ns mainGlobals mg)
    {nm q : Str} {bs : List Value} {sn : List Str} {sub : List Value} {ab : Bool} {col : Option Bool} {dd : Option Addr} {m0 m1 m2 m3 m5 : Option Value} {od an : Option Addr} {sl : Array (Option Value)} {oc dc pm cd ct : Value}
    (aC : PySem.W.nsIn K mainGlobals "LimitExceeded" = some (some (.ref C)))
    (xL : K.lookup C = some (excClassObj nm q C N bs [.ref R, .type "ArithmeticError", .type "Exception", .type "BaseException", .type "object"] true sn sub ab col dd m0 m1 m2 m3 m5 "ArithmeticError.__new__"))
    (sa : PySem.W.findIn K (.ref C) "__setattr__" = some (some (.builtin "object.__setattr__")))
    (ga : PySem.W.findIn K (.ref C) "__getattribute__" = some (some (.builtin "BaseException.__getattribute__")))
    (gg : PySem.W.findIn K (.ref C) "__getattr__" = some none)
    (n0 : PySem.W.findIn K (.ref C) "limit" = some none)
    (ov : PySem.W.excOver K C [.type "ArithmeticError", .type "Exception", .type "BaseException", .type "object"] = true)
    (k0 : PySem.W.takerIn K C "limit" = some none)
    (a1 : PySem.W.findIn K (.ref C) "__init__" = some (some (.ref f)))
    (t1 : PySem.W.typeIn K (.ref f) = some (.type "function"))
    (l1 : K.lookup f = some ⟨oc, od, .func (PySem.W.fnOf "__init__" "LimitExceeded.__init__" (defArgs s_LimitExceeded_ddinitdd) (defBody s_LimitExceeded_ddinitdd) (defScope s_LimitExceeded_ddinitdd) .none .none dc pm an cd ct), sl⟩) (c1 : PySem.W.codeIn K cd "LimitExceeded.__init__" = true)
    (kC : PySem.W.keepIn K (.ref C) = true) (eC : PySem.W.subIn K (.ref C) (.type "BaseException") = some true) (tC : PySem.W.typeIn K (.ref C) = some (.type "type")) (hC : PySem.W.hasDictIn K C = true)
    (ca : PySem.W.findIn K (.ref C) "__class__" = some (some (.builtin "object.__class__"))) (cn : PySem.W.specialIn K (.builtin "object.__class__") "__get__" = some (some (.builtin "getset_descriptor.__get__"))) (ct2 : PySem.W.takesIn K (.builtin "object.__class__") = some true) (cm : PySem.W.mroIn K C (.type "object") = some true) :
    ErX.ErTxt K mg "LimitExceeded" "LimitExceeded.__init__" "limit" C f ∧ ErCls K C := by
  refine ⟨⟨PySem.W.mg_of X G aC, ⟨_, _, _, _, _, _, _, _, _, _, _, _, _, _, _, xL, fun X => ?_⟩, sa, ga, gg, n0, ov, k0, a1, t1, kC, eC, tC, hC, ⟨oc, od, dc, pm, an, cd, ct, sl, _, _, _, _, _, _, l1, c1⟩, (by intros; (first | rfl | decide | with_unfolding_all rfl | kernel_rfl)), (by intros; (first | rfl | decide | with_unfolding_all rfl | kernel_rfl)), (by intros; (first | rfl | decide | with_unfolding_all rfl | kernel_rfl)), (by intros; (first | rfl | decide | with_unfolding_all rfl | kernel_rfl)), (by intros; (first | rfl | decide | with_unfolding_all rfl | kernel_rfl)), (by intros; (first | rfl | decide | with_unfolding_all rfl | kernel_rfl)), (by intros; (first | rfl | decide | with_unfolding_all rfl | kernel_rfl))⟩, ⟨?_, ga, gg, eC, hC, ca, cn, ct2, cm⟩⟩
  · rw [List.contains_cons]
    rfl
  · unfold PySem.W.clsIn
    rw [xL] <;> rfl
end RS
namespace RS
open PySem L2
/-! ### what the top has written -/
theorem all_mk {l : PySem.W.OpenLaw} {w : World} {K : PySem.W.Frag} {h : Heap} {mg : Str → Option Value} {fa : Addr} {ts : List Addr} (hts : ∀ P ∈ ts, h.get? P = some (PySem.W.tabObj #[])) (X : K.In h) (G : h.Ns mainGlobals mg) (hfa : mg "law" = some (.ref fa)) (hlong : ∃ t, mg "_LONGEST_GAP" = some (.int 1000000000000 t))
    {fa1 : Addr} {oda1 ana1 : Option Addr} {sla1 : Array (Option Value)} {oca1 kVa1 dca1 pma1 cta1 : Value}
    {cda1 : Value}
    {fa2 : Addr} {oda2 ana2 : Option Addr} {sla2 : Array (Option Value)} {oca2 kVa2 dca2 pma2 cta2 : Value}
    {cda2 : Value}
    {fa3 : Addr} {oda3 ana3 : Option Addr} {sla3 : Array (Option Value)} {oca3 kVa3 dca3 pma3 cta3 : Value}
    {cda3 : Value}
    {fa4 : Addr} {oda4 ana4 : Option Addr} {sla4 : Array (Option Value)} {oca4 kVa4 dca4 pma4 cta4 : Value}
    {cda4 : Value}
    {fa5 : Addr} {oda5 ana5 : Option Addr} {sla5 : Array (Option Value)} {oca5 kVa5 dca5 pma5 cta5 : Value}
    {cda5 : Value}
    {fr6 : Addr} {odr6 anr6 : Option Addr} {slr6 : Array (Option Value)} {ocr6 kVr6 dcr6 pmr6 ctr6 : Value}
    {cdr6 : Value}
    {fr8 : Addr} {odr8 anr8 : Option Addr} {slr8 : Array (Option Value)} {ocr8 kVr8 dcr8 pmr8 ctr8 : Value}
    {cdr8 : Value}
    {fr9 : Addr} {odr9 anr9 : Option Addr} {slr9 : Array (Option Value)} {ocr9 kVr9 dcr9 pmr9 ctr9 : Value}
    {cdr9 : Value}
    {fr10 : Addr} {odr10 anr10 : Option Addr} {slr10 : Array (Option Value)} {ocr10 kVr10 dcr10 pmr10 ctr10 : Value}
    {cdr10 : Value}
    {fr11 : Addr} {odr11 anr11 : Option Addr} {slr11 : Array (Option Value)} {ocr11 kVr11 dcr11 pmr11 ctr11 : Value}
    {cdr11 : Value}
    {fr12 : Addr} {odr12 anr12 : Option Addr} {slr12 : Array (Option Value)} {ocr12 kVr12 dcr12 pmr12 ctr12 : Value}
    {cdr12 : Value}
    {fr13 : Addr} {odr13 anr13 : Option Addr} {slr13 : Array (Option Value)} {ocr13 kVr13 dcr13 pmr13 ctr13 : Value}
    {cdr13 : Value}
    {fr14 : Addr} {odr14 anr14 : Option Addr} {slr14 : Array (Option Value)} {ocr14 kVr14 dcr14 pmr14 ctr14 : Value}
    {cdr14 : Value}
    {fa16 : Addr} {oda16 ana16 : Option Addr} {sla16 : Array (Option Value)} {oca16 kVa16 dca16 pma16 cta16 : Value}
    {cda16 : Value}
    {fa17 : Addr} {oda17 ana17 : Option Addr} {sla17 : Array (Option Value)} {oca17 kVa17 dca17 pma17 cta17 : Value}
    {cda17 : Value}
    {fa18 : Addr} {oda18 ana18 : Option Addr} {sla18 : Array (Option Value)} {oca18 kVa18 dca18 pma18 cta18 : Value}
    {cda18 : Value}
    {fa19 : Addr} {oda19 ana19 : Option Addr} {sla19 : Array (Option Value)} {oca19 kVa19 dca19 pma19 cta19 : Value}
    {cda19 : Value}
    {fa20 : Addr} {oda20 ana20 : Option Addr} {sla20 : Array (Option Value)} {oca20 kVa20 dca20 pma20 cta20 : Value}
    {cda20 : Value}
    {fa21 : Addr} {oda21 ana21 : Option Addr} {sla21 : Array (Option Value)} {oca21 kVa21 dca21 pma21 cta21 : Value}
    {cda21 : Value}
    {fa22 : Addr} {oda22 ana22 : Option Addr} {sla22 : Array (Option Value)} {oca22 kVa22 dca22 pma22 cta22 : Value}
    {cda22 : Value}
    {fa23 : Addr} {oda23 ana23 : Option Addr} {sla23 : Array (Option Value)} {oca23 kVa23 dca23 pma23 cta23 : Value}
    {cda23 : Value}
    {fr24 : Addr} {odr24 anr24 : Option Addr} {slr24 : Array (Option Value)} {ocr24 kVr24 dcr24 pmr24 ctr24 : Value}
    {cdr24 : Value}
    {fr25 : Addr} {odr25 anr25 : Option Addr} {slr25 : Array (Option Value)} {ocr25 kVr25 dcr25 pmr25 ctr25 : Value}
    {cdr25 : Value}
    {fr26 : Addr} {odr26 anr26 : Option Addr} {slr26 : Array (Option Value)} {ocr26 kVr26 dcr26 pmr26 ctr26 : Value}
    {cdr26 : Value}
    {fr27 : Addr} {odr27 anr27 : Option Addr} {slr27 : Array (Option Value)} {ocr27 kVr27 dcr27 pmr27 ctr27 : Value}
    {cdr27 : Value}
    {fr28 : Addr} {odr28 anr28 : Option Addr} {slr28 : Array (Option Value)} {ocr28 kVr28 dcr28 pmr28 ctr28 : Value}
    {cdr28 : Value}
    {fa29 : Addr} {oda29 ana29 : Option Addr} {sla29 : Array (Option Value)} {oca29 kVa29 dca29 pma29 cta29 : Value}
    {cda29 : Value}
    {fa30 : Addr} {oda30 ana30 : Option Addr} {sla30 : Array (Option Value)} {oca30 kVa30 dca30 pma30 cta30 : Value}
    {cda30 : Value}
    {fa31 : Addr} {oda31 ana31 : Option Addr} {sla31 : Array (Option Value)} {oca31 kVa31 dca31 pma31 cta31 : Value}
    {cda31 : Value}
    {fa32 : Addr} {oda32 ana32 : Option Addr} {sla32 : Array (Option Value)} {oca32 kVa32 dca32 pma32 cta32 : Value}
    {cda32 : Value}
    {fa33 : Addr} {oda33 ana33 : Option Addr} {sla33 : Array (Option Value)} {oca33 kVa33 dca33 pma33 cta33 : Value}
    {cda33 : Value}
    {fa34 : Addr} {oda34 ana34 : Option Addr} {sla34 : Array (Option Value)} {oca34 kVa34 dca34 pma34 cta34 : Value}
    {cda34 : Value}
    {fa35 : Addr} {oda35 ana35 : Option Addr} {sla35 : Array (Option Value)} {oca35 kVa35 dca35 pma35 cta35 : Value}
    {cda35 : Value}
    {fa36 : Addr} {oda36 ana36 : Option Addr} {sla36 : Array (Option Value)} {oca36 kVa36 dca36 pma36 cta36 : Value}
    {cda36 : Value}
    {fa37 : Addr} {oda37 ana37 : Option Addr} {sla37 : Array (Option Value)} {oca37 kVa37 dca37 pma37 cta37 : Value}
    {cda37 : Value}
    {fa38 : Addr} {oda38 ana38 : Option Addr} {sla38 : Array (Option Value)} {oca38 kVa38 dca38 pma38 cta38 : Value}
    {cda38 : Value}
    {fa39 : Addr} {oda39 ana39 : Option Addr} {sla39 : Array (Option Value)} {oca39 kVa39 dca39 pma39 cta39 : Value}
    {cda39 : Value}
    {fa40 : Addr} {oda40 ana40 : Option Addr} {sla40 : Array (Option Value)} {oca40 kVa40 dca40 pma40 cta40 : Value}
    {cda40 : Value}
    {fa41 : Addr} {oda41 ana41 : Option Addr} {sla41 : Array (Option Value)} {oca41 kVa41 dca41 pma41 cta41 : Value}
    {cda41 : Value}
    {fa42 : Addr} {oda42 ana42 : Option Addr} {sla42 : Array (Option Value)} {oca42 kVa42 dca42 pma42 cta42 : Value}
    {cda42 : Value}
    {fa43 : Addr} {oda43 ana43 : Option Addr} {sla43 : Array (Option Value)} {oca43 kVa43 dca43 pma43 cta43 : Value}
    {cda43 : Value}
    {fa44 : Addr} {oda44 ana44 : Option Addr} {sla44 : Array (Option Value)} {oca44 kVa44 dca44 pma44 cta44 : Value}
    {cda44 : Value}
    {fa45 : Addr} {oda45 ana45 : Option Addr} {sla45 : Array (Option Value)} {oca45 kVa45 dca45 pma45 cta45 : Value}
    {cda45 : Value}
    {fa46 : Addr} {oda46 ana46 : Option Addr} {sla46 : Array (Option Value)} {oca46 kVa46 dca46 pma46 cta46 : Value}
    {cda46 : Value}
    {fa47 : Addr} {oda47 ana47 : Option Addr} {sla47 : Array (Option Value)} {oca47 kVa47 dca47 pma47 cta47 : Value}
    {cda47 : Value}
    {fa48 : Addr} {oda48 ana48 : Option Addr} {sla48 : Array (Option Value)} {oca48 kVa48 dca48 pma48 cta48 : Value}
    {cda48 : Value}
    {fa49 : Addr} {oda49 ana49 : Option Addr} {sla49 : Array (Option Value)} {oca49 kVa49 dca49 pma49 cta49 : Value}
    {cda49 : Value}
    {fa50 : Addr} {oda50 ana50 : Option Addr} {sla50 : Array (Option Value)} {oca50 kVa50 dca50 pma50 cta50 : Value}
    {cda50 : Value}
    {fa51 : Addr} {oda51 ana51 : Option Addr} {sla51 : Array (Option Value)} {oca51 kVa51 dca51 pma51 cta51 : Value}
    {cda51 : Value}
    {fa52 : Addr} {oda52 ana52 : Option Addr} {sla52 : Array (Option Value)} {oca52 kVa52 dca52 pma52 cta52 : Value}
    {cda52 : Value}
    {fa0 : Addr} {oda0 ana0 : Option Addr} {sla0 : Array (Option Value)} {oca0 kVa0 dca0 pma0 cta0 : Value}
    {coa0 Pta0 : Addr} {vsa0 : Array Value} {odca0 : Option Addr} {slca0 : Array (Option Value)}
    {C : Addr}
    {R : Addr}
    {C_e0 f_e0 N_e0 : Addr} {nm_e0 q_e0 : Str} {bs_e0 : List Value} {sn_e0 : List Str} {sub_e0 : List Value} {ab_e0 : Bool} {col_e0 : Option Bool} {dd_e0 : Option Addr} {m0_e0 m1_e0 m2_e0 m3_e0 m5_e0 : Option Value} {od_e0 an_e0 : Option Addr} {sl_e0 : Array (Option Value)} {oc_e0 dc_e0 pm_e0 cd_e0 ct_e0 : Value}
    {C_e1 f_e1 N_e1 : Addr} {nm_e1 q_e1 : Str} {bs_e1 : List Value} {sn_e1 : List Str} {sub_e1 : List Value} {ab_e1 : Bool} {col_e1 : Option Bool} {dd_e1 : Option Addr} {m0_e1 m1_e1 m2_e1 m3_e1 m5_e1 : Option Value} {od_e1 an_e1 : Option Addr} {sl_e1 : Array (Option Value)} {oc_e1 dc_e1 pm_e1 cd_e1 ct_e1 : Value}
    {C_e2 f_e2 N_e2 : Addr} {nm_e2 q_e2 : Str} {bs_e2 : List Value} {sn_e2 : List Str} {sub_e2 : List Value} {ab_e2 : Bool} {col_e2 : Option Bool} {dd_e2 : Option Addr} {m0_e2 m1_e2 m2_e2 m3_e2 m5_e2 : Option Value} {od_e2 an_e2 : Option Addr} {sl_e2 : Array (Option Value)} {oc_e2 dc_e2 pm_e2 cd_e2 ct_e2 : Value}
    {C_e3 f_e3 N_e3 : Addr} {nm_e3 q_e3 : Str} {bs_e3 : List Value} {sn_e3 : List Str} {sub_e3 : List Value} {ab_e3 : Bool} {col_e3 : Option Bool} {dd_e3 : Option Addr} {m0_e3 m1_e3 m2_e3 m3_e3 m5_e3 : Option Value} {od_e3 an_e3 : Option Addr} {sl_e3 : Array (Option Value)} {oc_e3 dc_e3 pm_e3 cd_e3 ct_e3 : Value}
    {D_RetryError : Addr} {uk_RetryError : ClassData}
    {tM : Tok}
    {tF : Tok}
    {tL : Tok}
    (Aa1 : PySem.W.nsIn K mainGlobals "is_integer" = some (some (.ref fa1)))
    (La1 : K.lookup fa1 = some ⟨oca1, oda1, .func (PySem.W.fnOf "is_integer" "is_integer" (defArgs s_is_integer) (defBody s_is_integer) (defScope s_is_integer) .none kVa1 dca1 pma1 ana1 cda1 cta1), sla1⟩) (Ca1 : PySem.W.codeIn K cda1 "is_integer" = true) (Ka1 : PySem.W.keepIn K (.ref fa1) = true)
    (Aa2 : PySem.W.nsIn K mainGlobals "are_gaps" = some (some (.ref fa2)))
    (La2 : K.lookup fa2 = some ⟨oca2, oda2, .func (PySem.W.fnOf "are_gaps" "are_gaps" (defArgs s_are_gaps) (defBody s_are_gaps) (defScope s_are_gaps) .none kVa2 dca2 pma2 ana2 cda2 cta2), sla2⟩) (Ca2 : PySem.W.codeIn K cda2 "are_gaps" = true) (Ka2 : PySem.W.keepIn K (.ref fa2) = true)
    (Aa3 : PySem.W.nsIn K mainGlobals "_is_tail" = some (some (.ref fa3)))
    (La3 : K.lookup fa3 = some ⟨oca3, oda3, .func (PySem.W.fnOf "_is_tail" "_is_tail" (defArgs s_is_tail) (defBody s_is_tail) (defScope s_is_tail) .none kVa3 dca3 pma3 ana3 cda3 cta3), sla3⟩) (Ca3 : PySem.W.codeIn K cda3 "_is_tail" = true) (Ka3 : PySem.W.keepIn K (.ref fa3) = true)
    (Aa4 : PySem.W.nsIn K mainGlobals "sums" = some (some (.ref fa4)))
    (La4 : K.lookup fa4 = some ⟨oca4, oda4, .func (PySem.W.fnOf "sums" "sums" (defArgs s_sums) (defBody s_sums) (defScope s_sums) .none kVa4 dca4 pma4 ana4 cda4 cta4), sla4⟩) (Ca4 : PySem.W.codeIn K cda4 "sums" = true) (Ka4 : PySem.W.keepIn K (.ref fa4) = true)
    (Aa5 : PySem.W.nsIn K mainGlobals "_power" = some (some (.ref fa5)))
    (La5 : K.lookup fa5 = some ⟨oca5, oda5, .func (PySem.W.fnOf "_power" "_power" (defArgs s_power) (defBody s_power) (defScope s_power) .none kVa5 dca5 pma5 ana5 cda5 cta5), sla5⟩) (Ca5 : PySem.W.codeIn K cda5 "_power" = true) (Ka5 : PySem.W.keepIn K (.ref fa5) = true)
    (Ar6 : PySem.W.findIn K (.ref C) "__init__" = some (some (.ref fr6))) (Ir6 : PySem.W.isFn K (.ref fr6) = true)
    (Lr6 : K.lookup fr6 = some ⟨ocr6, odr6, .func (PySem.W.fnOf "__init__" "Rule.__init__" (defArgs s_Rule_ddinitdd) (defBody s_Rule_ddinitdd) (defScope s_Rule_ddinitdd) .none kVr6 dcr6 pmr6 anr6 cdr6 ctr6), slr6⟩) (Cr6 : PySem.W.codeIn K cdr6 "Rule.__init__" = true) (Kr6 : PySem.W.keepIn K (.ref fr6) = true)
    (Ar8 : PySem.W.findIn K (.ref C) "first_repeating" = some (some (.ref fr8))) (Ir8 : PySem.W.isFn K (.ref fr8) = true)
    (Lr8 : K.lookup fr8 = some ⟨ocr8, odr8, .func (PySem.W.fnOf "first_repeating" "Rule.first_repeating" (defArgs s_Rule_first_repeating) (defBody s_Rule_first_repeating) (defScope s_Rule_first_repeating) .none kVr8 dcr8 pmr8 anr8 cdr8 ctr8), slr8⟩) (Cr8 : PySem.W.codeIn K cdr8 "Rule.first_repeating" = true) (Kr8 : PySem.W.keepIn K (.ref fr8) = true)
    (Ar9 : PySem.W.findIn K (.ref C) "period" = some (some (.ref fr9))) (Ir9 : PySem.W.isFn K (.ref fr9) = true)
    (Lr9 : K.lookup fr9 = some ⟨ocr9, odr9, .func (PySem.W.fnOf "period" "Rule.period" (defArgs s_Rule_period) (defBody s_Rule_period) (defScope s_Rule_period) .none kVr9 dcr9 pmr9 anr9 cdr9 ctr9), slr9⟩) (Cr9 : PySem.W.codeIn K cdr9 "Rule.period" = true) (Kr9 : PySem.W.keepIn K (.ref fr9) = true)
    (Ar10 : PySem.W.findIn K (.ref C) "gaps" = some (some (.ref fr10))) (Ir10 : PySem.W.isFn K (.ref fr10) = true)
    (Lr10 : K.lookup fr10 = some ⟨ocr10, odr10, .func (PySem.W.fnOf "gaps" "Rule.gaps" (defArgs s_Rule_gaps) (defBody s_Rule_gaps) (defScope s_Rule_gaps) .none kVr10 dcr10 pmr10 anr10 cdr10 ctr10), slr10⟩) (Cr10 : PySem.W.codeIn K cdr10 "Rule.gaps" = true) (Kr10 : PySem.W.keepIn K (.ref fr10) = true)
    (Ar11 : PySem.W.findIn K (.ref C) "tail" = some (some (.ref fr11))) (Ir11 : PySem.W.isFn K (.ref fr11) = true)
    (Lr11 : K.lookup fr11 = some ⟨ocr11, odr11, .func (PySem.W.fnOf "tail" "Rule.tail" (defArgs s_Rule_tail) (defBody s_Rule_tail) (defScope s_Rule_tail) .none kVr11 dcr11 pmr11 anr11 cdr11 ctr11), slr11⟩) (Cr11 : PySem.W.codeIn K cdr11 "Rule.tail" = true) (Kr11 : PySem.W.keepIn K (.ref fr11) = true)
    (Ar12 : PySem.W.findIn K (.ref C) "_check_attempt" = some (some (.ref fr12))) (Ir12 : PySem.W.isFn K (.ref fr12) = true)
    (Lr12 : K.lookup fr12 = some ⟨ocr12, odr12, .func (PySem.W.fnOf "_check_attempt" "Rule._check_attempt" (defArgs s_Rule_check_attempt) (defBody s_Rule_check_attempt) (defScope s_Rule_check_attempt) .none kVr12 dcr12 pmr12 anr12 cdr12 ctr12), slr12⟩) (Cr12 : PySem.W.codeIn K cdr12 "Rule._check_attempt" = true) (Kr12 : PySem.W.keepIn K (.ref fr12) = true)
    (Ar13 : PySem.W.findIn K (.ref C) "_offset_of" = some (some (.ref fr13))) (Ir13 : PySem.W.isFn K (.ref fr13) = true)
    (Lr13 : K.lookup fr13 = some ⟨ocr13, odr13, .func (PySem.W.fnOf "_offset_of" "Rule._offset_of" (defArgs s_Rule_offset_of) (defBody s_Rule_offset_of) (defScope s_Rule_offset_of) .none kVr13 dcr13 pmr13 anr13 cdr13 ctr13), slr13⟩) (Cr13 : PySem.W.codeIn K cdr13 "Rule._offset_of" = true) (Kr13 : PySem.W.keepIn K (.ref fr13) = true)
    (Ar14 : PySem.W.findIn K (.ref C) "offset" = some (some (.ref fr14))) (Ir14 : PySem.W.isFn K (.ref fr14) = true)
    (Lr14 : K.lookup fr14 = some ⟨ocr14, odr14, .func (PySem.W.fnOf "offset" "Rule.offset" (defArgs s_Rule_offset) (defBody s_Rule_offset) (defScope s_Rule_offset) .none kVr14 dcr14 pmr14 anr14 cdr14 ctr14), slr14⟩) (Cr14 : PySem.W.codeIn K cdr14 "Rule.offset" = true) (Kr14 : PySem.W.keepIn K (.ref fr14) = true)
    (Aa16 : PySem.W.nsIn K mainGlobals "_law_source_of" = some (some (.ref fa16)))
    (La16 : K.lookup fa16 = some ⟨oca16, oda16, .func (PySem.W.fnOf "_law_source_of" "_law_source_of" (defArgs s_law_source_of) (defBody s_law_source_of) (defScope s_law_source_of) .none kVa16 dca16 pma16 ana16 cda16 cta16), sla16⟩) (Ca16 : PySem.W.codeIn K cda16 "_law_source_of" = true) (Ka16 : PySem.W.keepIn K (.ref fa16) = true)
    (Aa17 : PySem.W.nsIn K mainGlobals "_law_draw" = some (some (.ref fa17)))
    (La17 : K.lookup fa17 = some ⟨oca17, oda17, .func (PySem.W.fnOf "_law_draw" "_law_draw" (defArgs s_law_draw) (defBody s_law_draw) (defScope s_law_draw) .none kVa17 dca17 pma17 ana17 cda17 cta17), sla17⟩) (Ca17 : PySem.W.codeIn K cda17 "_law_draw" = true) (Ka17 : PySem.W.keepIn K (.ref fa17) = true)
    (Aa18 : PySem.W.nsIn K mainGlobals "_law_choice" = some (some (.ref fa18)))
    (La18 : K.lookup fa18 = some ⟨oca18, oda18, .func (PySem.W.fnOf "_law_choice" "_law_choice" (defArgs s_law_choice) (defBody s_law_choice) (defScope s_law_choice) .none kVa18 dca18 pma18 ana18 cda18 cta18), sla18⟩) (Ca18 : PySem.W.codeIn K cda18 "_law_choice" = true) (Ka18 : PySem.W.keepIn K (.ref fa18) = true)
    (Aa19 : PySem.W.nsIn K mainGlobals "_law_cell_at" = some (some (.ref fa19)))
    (La19 : K.lookup fa19 = some ⟨oca19, oda19, .func (PySem.W.fnOf "_law_cell_at" "_law_cell_at" (defArgs s_law_cell_at) (defBody s_law_cell_at) (defScope s_law_cell_at) .none kVa19 dca19 pma19 ana19 cda19 cta19), sla19⟩) (Ca19 : PySem.W.codeIn K cda19 "_law_cell_at" = true) (Ka19 : PySem.W.keepIn K (.ref fa19) = true)
    (Aa20 : PySem.W.nsIn K mainGlobals "_law_gaps" = some (some (.ref fa20)))
    (La20 : K.lookup fa20 = some ⟨oca20, oda20, .func (PySem.W.fnOf "_law_gaps" "_law_gaps" (defArgs s_law_gaps) (defBody s_law_gaps) (defScope s_law_gaps) .none kVa20 dca20 pma20 ana20 cda20 cta20), sla20⟩) (Ca20 : PySem.W.codeIn K cda20 "_law_gaps" = true) (Ka20 : PySem.W.keepIn K (.ref fa20) = true)
    (Aa21 : PySem.W.nsIn K mainGlobals "_law_tail" = some (some (.ref fa21)))
    (La21 : K.lookup fa21 = some ⟨oca21, oda21, .func (PySem.W.fnOf "_law_tail" "_law_tail" (defArgs s_law_tail) (defBody s_law_tail) (defScope s_law_tail) .none kVa21 dca21 pma21 ana21 cda21 cta21), sla21⟩) (Ca21 : PySem.W.codeIn K cda21 "_law_tail" = true) (Ka21 : PySem.W.keepIn K (.ref fa21) = true)
    (Aa22 : PySem.W.nsIn K mainGlobals "listed_offsets" = some (some (.ref fa22)))
    (La22 : K.lookup fa22 = some ⟨oca22, oda22, .func (PySem.W.fnOf "listed_offsets" "listed_offsets" (defArgs s_listed_offsets) (defBody s_listed_offsets) (defScope s_listed_offsets) .none kVa22 dca22 pma22 ana22 cda22 cta22), sla22⟩) (Ca22 : PySem.W.codeIn K cda22 "listed_offsets" = true) (Ka22 : PySem.W.keepIn K (.ref fa22) = true)
    (Aa23 : PySem.W.nsIn K mainGlobals "_first_at_least" = some (some (.ref fa23)))
    (La23 : K.lookup fa23 = some ⟨oca23, oda23, .func (PySem.W.fnOf "_first_at_least" "_first_at_least" (defArgs s_first_at_least) (defBody s_first_at_least) (defScope s_first_at_least) .none kVa23 dca23 pma23 ana23 cda23 cta23), sla23⟩) (Ca23 : PySem.W.codeIn K cda23 "_first_at_least" = true) (Ka23 : PySem.W.keepIn K (.ref fa23) = true)
    (Ar24 : PySem.W.findIn K (.ref C) "_surely_short" = some (some (.ref fr24))) (Ir24 : PySem.W.isFn K (.ref fr24) = true)
    (Lr24 : K.lookup fr24 = some ⟨ocr24, odr24, .func (PySem.W.fnOf "_surely_short" "Rule._surely_short" (defArgs s_Rule_surely_short) (defBody s_Rule_surely_short) (defScope s_Rule_surely_short) .none kVr24 dcr24 pmr24 anr24 cdr24 ctr24), slr24⟩) (Cr24 : PySem.W.codeIn K cdr24 "Rule._surely_short" = true) (Kr24 : PySem.W.keepIn K (.ref fr24) = true)
    (Ar25 : PySem.W.findIn K (.ref C) "_first_growing" = some (some (.ref fr25))) (Ir25 : PySem.W.isFn K (.ref fr25) = true)
    (Lr25 : K.lookup fr25 = some ⟨ocr25, odr25, .func (PySem.W.fnOf "_first_growing" "Rule._first_growing" (defArgs s_Rule_first_growing) (defBody s_Rule_first_growing) (defScope s_Rule_first_growing) .none kVr25 dcr25 pmr25 anr25 cdr25 ctr25), slr25⟩) (Cr25 : PySem.W.codeIn K cdr25 "Rule._first_growing" = true) (Kr25 : PySem.W.keepIn K (.ref fr25) = true)
    (Ar26 : PySem.W.findIn K (.ref C) "_first_repeated" = some (some (.ref fr26))) (Ir26 : PySem.W.isFn K (.ref fr26) = true)
    (Lr26 : K.lookup fr26 = some ⟨ocr26, odr26, .func (PySem.W.fnOf "_first_repeated" "Rule._first_repeated" (defArgs s_Rule_first_repeated) (defBody s_Rule_first_repeated) (defScope s_Rule_first_repeated) .none kVr26 dcr26 pmr26 anr26 cdr26 ctr26), slr26⟩) (Cr26 : PySem.W.codeIn K cdr26 "Rule._first_repeated" = true) (Kr26 : PySem.W.keepIn K (.ref fr26) = true)
    (Ar27 : PySem.W.findIn K (.ref C) "first_from" = some (some (.ref fr27))) (Ir27 : PySem.W.isFn K (.ref fr27) = true)
    (Lr27 : K.lookup fr27 = some ⟨ocr27, odr27, .func (PySem.W.fnOf "first_from" "Rule.first_from" (defArgs s_Rule_first_from) (defBody s_Rule_first_from) (defScope s_Rule_first_from) .none kVr27 dcr27 pmr27 anr27 cdr27 ctr27), slr27⟩) (Cr27 : PySem.W.codeIn K cdr27 "Rule.first_from" = true) (Kr27 : PySem.W.keepIn K (.ref fr27) = true)
    (Ar28 : PySem.W.findIn K (.ref C) "attempt_at" = some (some (.ref fr28))) (Ir28 : PySem.W.isFn K (.ref fr28) = true)
    (Lr28 : K.lookup fr28 = some ⟨ocr28, odr28, .func (PySem.W.fnOf "attempt_at" "Rule.attempt_at" (defArgs s_Rule_attempt_at) (defBody s_Rule_attempt_at) (defScope s_Rule_attempt_at) .none kVr28 dcr28 pmr28 anr28 cdr28 ctr28), slr28⟩) (Cr28 : PySem.W.codeIn K cdr28 "Rule.attempt_at" = true) (Kr28 : PySem.W.keepIn K (.ref fr28) = true)
    (Aa29 : PySem.W.nsIn K mainGlobals "offsets_beyond" = some (some (.ref fa29)))
    (La29 : K.lookup fa29 = some ⟨oca29, oda29, .func (PySem.W.fnOf "offsets_beyond" "offsets_beyond" (defArgs s_offsets_beyond) (defBody s_offsets_beyond) (defScope s_offsets_beyond) .none kVa29 dca29 pma29 ana29 cda29 cta29), sla29⟩) (Ca29 : PySem.W.codeIn K cda29 "offsets_beyond" = true) (Ka29 : PySem.W.keepIn K (.ref fa29) = true)
    (Aa30 : PySem.W.nsIn K mainGlobals "_telling_offsets" = some (some (.ref fa30)))
    (La30 : K.lookup fa30 = some ⟨oca30, oda30, .func (PySem.W.fnOf "_telling_offsets" "_telling_offsets" (defArgs s_telling_offsets) (defBody s_telling_offsets) (defScope s_telling_offsets) .none kVa30 dca30 pma30 ana30 cda30 cta30), sla30⟩) (Ca30 : PySem.W.codeIn K cda30 "_telling_offsets" = true) (Ka30 : PySem.W.keepIn K (.ref fa30) = true)
    (Aa31 : PySem.W.nsIn K mainGlobals "_pairs_by_difference" = some (some (.ref fa31)))
    (La31 : K.lookup fa31 = some ⟨oca31, oda31, .func (PySem.W.fnOf "_pairs_by_difference" "_pairs_by_difference" (defArgs s_pairs_by_difference) (defBody s_pairs_by_difference) (defScope s_pairs_by_difference) .none kVa31 dca31 pma31 ana31 cda31 cta31), sla31⟩) (Ca31 : PySem.W.codeIn K cda31 "_pairs_by_difference" = true) (Ka31 : PySem.W.keepIn K (.ref fa31) = true)
    (Aa32 : PySem.W.nsIn K mainGlobals "most_shared" = some (some (.ref fa32)))
    (La32 : K.lookup fa32 = some ⟨oca32, oda32, .func (PySem.W.fnOf "most_shared" "most_shared" (defArgs s_most_shared) (defBody s_most_shared) (defScope s_most_shared) .none kVa32 dca32 pma32 ana32 cda32 cta32), sla32⟩) (Ca32 : PySem.W.codeIn K cda32 "most_shared" = true) (Ka32 : PySem.W.keepIn K (.ref fa32) = true)
    (Aa33 : PySem.W.nsIn K mainGlobals "_fewest_repeating" = some (some (.ref fa33)))
    (La33 : K.lookup fa33 = some ⟨oca33, oda33, .func (PySem.W.fnOf "_fewest_repeating" "_fewest_repeating" (defArgs s_fewest_repeating) (defBody s_fewest_repeating) (defScope s_fewest_repeating) .none kVa33 dca33 pma33 ana33 cda33 cta33), sla33⟩) (Ca33 : PySem.W.codeIn K cda33 "_fewest_repeating" = true) (Ka33 : PySem.W.keepIn K (.ref fa33) = true)
    (Aa34 : PySem.W.nsIn K mainGlobals "first_repetition" = some (some (.ref fa34)))
    (La34 : K.lookup fa34 = some ⟨oca34, oda34, .func (PySem.W.fnOf "first_repetition" "first_repetition" (defArgs s_first_repetition) (defBody s_first_repetition) (defScope s_first_repetition) .none kVa34 dca34 pma34 ana34 cda34 cta34), sla34⟩) (Ca34 : PySem.W.codeIn K cda34 "first_repetition" = true) (Ka34 : PySem.W.keepIn K (.ref fa34) = true)
    (Aa35 : PySem.W.nsIn K mainGlobals "is_spread" = some (some (.ref fa35)))
    (La35 : K.lookup fa35 = some ⟨oca35, oda35, .func (PySem.W.fnOf "is_spread" "is_spread" (defArgs s_is_spread) (defBody s_is_spread) (defScope s_is_spread) .none kVa35 dca35 pma35 ana35 cda35 cta35), sla35⟩) (Ca35 : PySem.W.codeIn K cda35 "is_spread" = true) (Ka35 : PySem.W.keepIn K (.ref fa35) = true)
    (Aa36 : PySem.W.nsIn K mainGlobals "_check_distance" = some (some (.ref fa36)))
    (La36 : K.lookup fa36 = some ⟨oca36, oda36, .func (PySem.W.fnOf "_check_distance" "_check_distance" (defArgs s_check_distance) (defBody s_check_distance) (defScope s_check_distance) .none kVa36 dca36 pma36 ana36 cda36 cta36), sla36⟩) (Ca36 : PySem.W.codeIn K cda36 "_check_distance" = true) (Ka36 : PySem.W.keepIn K (.ref fa36) = true)
    (Aa37 : PySem.W.nsIn K mainGlobals "_reaching_repeated" = some (some (.ref fa37)))
    (La37 : K.lookup fa37 = some ⟨oca37, oda37, .func (PySem.W.fnOf "_reaching_repeated" "_reaching_repeated" (defArgs s_reaching_repeated) (defBody s_reaching_repeated) (defScope s_reaching_repeated) .none kVa37 dca37 pma37 ana37 cda37 cta37), sla37⟩) (Ca37 : PySem.W.codeIn K cda37 "_reaching_repeated" = true) (Ka37 : PySem.W.keepIn K (.ref fa37) = true)
    (Aa38 : PySem.W.nsIn K mainGlobals "_reaching" = some (some (.ref fa38)))
    (La38 : K.lookup fa38 = some ⟨oca38, oda38, .func (PySem.W.fnOf "_reaching" "_reaching" (defArgs s_reaching) (defBody s_reaching) (defScope s_reaching) .none kVa38 dca38 pma38 ana38 cda38 cta38), sla38⟩) (Ca38 : PySem.W.codeIn K cda38 "_reaching" = true) (Ka38 : PySem.W.keepIn K (.ref fa38) = true)
    (Aa39 : PySem.W.nsIn K mainGlobals "shared_attempts" = some (some (.ref fa39)))
    (La39 : K.lookup fa39 = some ⟨oca39, oda39, .func (PySem.W.fnOf "shared_attempts" "shared_attempts" (defArgs s_shared_attempts) (defBody s_shared_attempts) (defScope s_shared_attempts) .none kVa39 dca39 pma39 ana39 cda39 cta39), sla39⟩) (Ca39 : PySem.W.codeIn K cda39 "shared_attempts" = true) (Ka39 : PySem.W.keepIn K (.ref fa39) = true)
    (Aa40 : PySem.W.nsIn K mainGlobals "next_distance" = some (some (.ref fa40)))
    (La40 : K.lookup fa40 = some ⟨oca40, oda40, .func (PySem.W.fnOf "next_distance" "next_distance" (defArgs s_next_distance) (defBody s_next_distance) (defScope s_next_distance) .none kVa40 dca40 pma40 ana40 cda40 cta40), sla40⟩) (Ca40 : PySem.W.codeIn K cda40 "next_distance" = true) (Ka40 : PySem.W.keepIn K (.ref fa40) = true)
    (Aa41 : PySem.W.nsIn K mainGlobals "check_bound" = some (some (.ref fa41)))
    (La41 : K.lookup fa41 = some ⟨oca41, oda41, .func (PySem.W.fnOf "check_bound" "check_bound" (defArgs s_check_bound) (defBody s_check_bound) (defScope s_check_bound) .none kVa41 dca41 pma41 ana41 cda41 cta41), sla41⟩) (Ca41 : PySem.W.codeIn K cda41 "check_bound" = true) (Ka41 : PySem.W.keepIn K (.ref fa41) = true)
    (Aa42 : PySem.W.nsIn K mainGlobals "single_offsets" = some (some (.ref fa42)))
    (La42 : K.lookup fa42 = some ⟨oca42, oda42, .func (PySem.W.fnOf "single_offsets" "single_offsets" (defArgs s_single_offsets) (defBody s_single_offsets) (defScope s_single_offsets) .none kVa42 dca42 pma42 ana42 cda42 cta42), sla42⟩) (Ca42 : PySem.W.codeIn K cda42 "single_offsets" = true) (Ka42 : PySem.W.keepIn K (.ref fa42) = true)
    (Aa43 : PySem.W.nsIn K mainGlobals "_least_by_residue" = some (some (.ref fa43)))
    (La43 : K.lookup fa43 = some ⟨oca43, oda43, .func (PySem.W.fnOf "_least_by_residue" "_least_by_residue" (defArgs s_least_by_residue) (defBody s_least_by_residue) (defScope s_least_by_residue) .none kVa43 dca43 pma43 ana43 cda43 cta43), sla43⟩) (Ca43 : PySem.W.codeIn K cda43 "_least_by_residue" = true) (Ka43 : PySem.W.keepIn K (.ref fa43) = true)
    (Aa44 : PySem.W.nsIn K mainGlobals "_count_repeating" = some (some (.ref fa44)))
    (La44 : K.lookup fa44 = some ⟨oca44, oda44, .func (PySem.W.fnOf "_count_repeating" "_count_repeating" (defArgs s_count_repeating) (defBody s_count_repeating) (defScope s_count_repeating) .none kVa44 dca44 pma44 ana44 cda44 cta44), sla44⟩) (Ca44 : PySem.W.codeIn K cda44 "_count_repeating" = true) (Ka44 : PySem.W.keepIn K (.ref fa44) = true)
    (Aa45 : PySem.W.nsIn K mainGlobals "_count_growing" = some (some (.ref fa45)))
    (La45 : K.lookup fa45 = some ⟨oca45, oda45, .func (PySem.W.fnOf "_count_growing" "_count_growing" (defArgs s_count_growing) (defBody s_count_growing) (defScope s_count_growing) .none kVa45 dca45 pma45 ana45 cda45 cta45), sla45⟩) (Ca45 : PySem.W.codeIn K cda45 "_count_growing" = true) (Ka45 : PySem.W.keepIn K (.ref fa45) = true)
    (Aa46 : PySem.W.nsIn K mainGlobals "count_distances" = some (some (.ref fa46)))
    (La46 : K.lookup fa46 = some ⟨oca46, oda46, .func (PySem.W.fnOf "count_distances" "count_distances" (defArgs s_count_distances) (defBody s_count_distances) (defScope s_count_distances) .none kVa46 dca46 pma46 ana46 cda46 cta46), sla46⟩) (Ca46 : PySem.W.codeIn K cda46 "count_distances" = true) (Ka46 : PySem.W.keepIn K (.ref fa46) = true)
    (Aa47 : PySem.W.nsIn K mainGlobals "_is_attempt" = some (some (.ref fa47)))
    (La47 : K.lookup fa47 = some ⟨oca47, oda47, .func (PySem.W.fnOf "_is_attempt" "_is_attempt" (defArgs s_is_attempt) (defBody s_is_attempt) (defScope s_is_attempt) .none kVa47 dca47 pma47 ana47 cda47 cta47), sla47⟩) (Ca47 : PySem.W.codeIn K cda47 "_is_attempt" = true) (Ka47 : PySem.W.keepIn K (.ref fa47) = true)
    (Aa48 : PySem.W.nsIn K mainGlobals "_is_pair" = some (some (.ref fa48)))
    (La48 : K.lookup fa48 = some ⟨oca48, oda48, .func (PySem.W.fnOf "_is_pair" "_is_pair" (defArgs s_is_pair) (defBody s_is_pair) (defScope s_is_pair) .none kVa48 dca48 pma48 ana48 cda48 cta48), sla48⟩) (Ca48 : PySem.W.codeIn K cda48 "_is_pair" = true) (Ka48 : PySem.W.keepIn K (.ref fa48) = true)
    (Aa49 : PySem.W.nsIn K mainGlobals "_difference" = some (some (.ref fa49)))
    (La49 : K.lookup fa49 = some ⟨oca49, oda49, .func (PySem.W.fnOf "_difference" "_difference" (defArgs s_difference) (defBody s_difference) (defScope s_difference) .none kVa49 dca49 pma49 ana49 cda49 cta49), sla49⟩) (Ca49 : PySem.W.codeIn K cda49 "_difference" = true) (Ka49 : PySem.W.keepIn K (.ref fa49) = true)
    (Aa50 : PySem.W.nsIn K mainGlobals "is_repetition" = some (some (.ref fa50)))
    (La50 : K.lookup fa50 = some ⟨oca50, oda50, .func (PySem.W.fnOf "is_repetition" "is_repetition" (defArgs s_is_repetition) (defBody s_is_repetition) (defScope s_is_repetition) .none kVa50 dca50 pma50 ana50 cda50 cta50), sla50⟩) (Ca50 : PySem.W.codeIn K cda50 "is_repetition" = true) (Ka50 : PySem.W.keepIn K (.ref fa50) = true)
    (Aa51 : PySem.W.nsIn K mainGlobals "_law_names_right" = some (some (.ref fa51)))
    (La51 : K.lookup fa51 = some ⟨oca51, oda51, .func (PySem.W.fnOf "_law_names_right" "_law_names_right" (defArgs s_law_names_right) (defBody s_law_names_right) (defScope s_law_names_right) .none kVa51 dca51 pma51 ana51 cda51 cta51), sla51⟩) (Ca51 : PySem.W.codeIn K cda51 "_law_names_right" = true) (Ka51 : PySem.W.keepIn K (.ref fa51) = true)
    (Aa52 : PySem.W.nsIn K mainGlobals "_law_error" = some (some (.ref fa52)))
    (La52 : K.lookup fa52 = some ⟨oca52, oda52, .func (PySem.W.fnOf "_law_error" "_law_error" (defArgs s_law_error) (defBody s_law_error) (defScope s_law_error) .none kVa52 dca52 pma52 ana52 cda52 cta52), sla52⟩) (Ca52 : PySem.W.codeIn K cda52 "_law_error" = true) (Ka52 : PySem.W.keepIn K (.ref fa52) = true)
    (Aa0 : PySem.W.nsIn K mainGlobals "law" = some (some (.ref fa0)))
    (La0 : K.lookup fa0 = some ⟨oca0, oda0, .func (PySem.W.fnOf "law" "law" (defArgs s_law) (defBody s_law) (defScope s_law) .none kVa0 dca0 pma0 ana0 (.ref coa0) cta0), sla0⟩) (Ca0 : PySem.W.codeIn K (.ref coa0) "law" = true) (Ka0 : PySem.W.keepIn K (.ref fa0) = true)
    (lca0 : K.lookup coa0 = some ⟨.type "code", odca0, .fields vsa0, slca0⟩) (lta0 : vsa0[11]? = some (.ref Pta0)) (lha0 : PySem.W.codeHdIn K coa0 Pta0 = true) (lna0 : K.lookup Pta0 = none) (lma0 : Pta0 ∈ ts)
    (aC : PySem.W.nsIn K mainGlobals "Rule" = some (some (.ref C)))
    (pg : PySem.W.plainGet K C Str.empty = true)
    (hd : PySem.W.hasDictIn K C = true)
    (po : PySem.W.plainOver K C = true)
    (sa : PySem.W.findIn K (.ref C) "__setattr__" = some (some (.builtin "object.__setattr__")))
    (mk : PySem.W.makesIn K C = true)
    (kc : PySem.W.keepIn K (.ref C) = true)
    (n0 : PySem.W.findIn K (.ref C) "_gaps" = some none)
    (n1 : PySem.W.findIn K (.ref C) "_tail" = some none)
    (n2 : PySem.W.findIn K (.ref C) "_offsets" = some none)
    (z_len : PySem.W.nsIn K mainGlobals "len" = some none)
    (z_isinstance : PySem.W.nsIn K mainGlobals "isinstance" = some none)
    (z_int : PySem.W.nsIn K mainGlobals "int" = some none)
    (z_bool : PySem.W.nsIn K mainGlobals "bool" = some none)
    (z_list : PySem.W.nsIn K mainGlobals "list" = some none)
    (z_tuple : PySem.W.nsIn K mainGlobals "tuple" = some none)
    (z_str : PySem.W.nsIn K mainGlobals "str" = some none)
    (z_all : PySem.W.nsIn K mainGlobals "all" = some none)
    (z_range : PySem.W.nsIn K mainGlobals "range" = some none)
    (z_divmod : PySem.W.nsIn K mainGlobals "divmod" = some none)
    (z_sum : PySem.W.nsIn K mainGlobals "sum" = some none)
    (z_max : PySem.W.nsIn K mainGlobals "max" = some none)
    (z_min : PySem.W.nsIn K mainGlobals "min" = some none)
    (z_sorted : PySem.W.nsIn K mainGlobals "sorted" = some none)
    (z_set : PySem.W.nsIn K mainGlobals "set" = some none)
    (z_any : PySem.W.nsIn K mainGlobals "any" = some none)
    (z_enumerate : PySem.W.nsIn K mainGlobals "enumerate" = some none)
    (z_ArithmeticError : PySem.W.nsIn K mainGlobals "ArithmeticError" = some none)
    (aC_e0 : PySem.W.nsIn K mainGlobals "InvalidAttempt" = some (some (.ref C_e0)))
    (xL_e0 : K.lookup C_e0 = some (excClassObj nm_e0 q_e0 C_e0 N_e0 bs_e0 [.ref R, .type "ArithmeticError", .type "Exception", .type "BaseException", .type "object"] true sn_e0 sub_e0 ab_e0 col_e0 dd_e0 m0_e0 m1_e0 m2_e0 m3_e0 m5_e0 "ArithmeticError.__new__"))
    (sa_e0 : PySem.W.findIn K (.ref C_e0) "__setattr__" = some (some (.builtin "object.__setattr__")))
    (ga_e0 : PySem.W.findIn K (.ref C_e0) "__getattribute__" = some (some (.builtin "BaseException.__getattribute__")))
    (gg_e0 : PySem.W.findIn K (.ref C_e0) "__getattr__" = some none)
    (n0_e0 : PySem.W.findIn K (.ref C_e0) "attempt" = some none)
    (ov_e0 : PySem.W.excOver K C_e0 [.type "ArithmeticError", .type "Exception", .type "BaseException", .type "object"] = true)
    (k0_e0 : PySem.W.takerIn K C_e0 "attempt" = some none)
    (a1_e0 : PySem.W.findIn K (.ref C_e0) "__init__" = some (some (.ref f_e0)))
    (t1_e0 : PySem.W.typeIn K (.ref f_e0) = some (.type "function"))
    (l1_e0 : K.lookup f_e0 = some ⟨oc_e0, od_e0, .func (PySem.W.fnOf "__init__" "InvalidAttempt.__init__" (defArgs s_InvalidAttempt_ddinitdd) (defBody s_InvalidAttempt_ddinitdd) (defScope s_InvalidAttempt_ddinitdd) .none .none dc_e0 pm_e0 an_e0 cd_e0 ct_e0), sl_e0⟩) (c1_e0 : PySem.W.codeIn K cd_e0 "InvalidAttempt.__init__" = true)
    (kC_e0 : PySem.W.keepIn K (.ref C_e0) = true) (eC_e0 : PySem.W.subIn K (.ref C_e0) (.type "BaseException") = some true) (tC_e0 : PySem.W.typeIn K (.ref C_e0) = some (.type "type")) (hC_e0 : PySem.W.hasDictIn K C_e0 = true)
    (ca_e0 : PySem.W.findIn K (.ref C_e0) "__class__" = some (some (.builtin "object.__class__"))) (cn_e0 : PySem.W.specialIn K (.builtin "object.__class__") "__get__" = some (some (.builtin "getset_descriptor.__get__"))) (ct2_e0 : PySem.W.takesIn K (.builtin "object.__class__") = some true) (cm_e0 : PySem.W.mroIn K C_e0 (.type "object") = some true)
    (aC_e1 : PySem.W.nsIn K mainGlobals "LimitExceeded" = some (some (.ref C_e1)))
    (xL_e1 : K.lookup C_e1 = some (excClassObj nm_e1 q_e1 C_e1 N_e1 bs_e1 [.ref R, .type "ArithmeticError", .type "Exception", .type "BaseException", .type "object"] true sn_e1 sub_e1 ab_e1 col_e1 dd_e1 m0_e1 m1_e1 m2_e1 m3_e1 m5_e1 "ArithmeticError.__new__"))
    (sa_e1 : PySem.W.findIn K (.ref C_e1) "__setattr__" = some (some (.builtin "object.__setattr__")))
    (ga_e1 : PySem.W.findIn K (.ref C_e1) "__getattribute__" = some (some (.builtin "BaseException.__getattribute__")))
    (gg_e1 : PySem.W.findIn K (.ref C_e1) "__getattr__" = some none)
    (n0_e1 : PySem.W.findIn K (.ref C_e1) "limit" = some none)
    (ov_e1 : PySem.W.excOver K C_e1 [.type "ArithmeticError", .type "Exception", .type "BaseException", .type "object"] = true)
    (k0_e1 : PySem.W.takerIn K C_e1 "limit" = some none)
    (a1_e1 : PySem.W.findIn K (.ref C_e1) "__init__" = some (some (.ref f_e1)))
    (t1_e1 : PySem.W.typeIn K (.ref f_e1) = some (.type "function"))
    (l1_e1 : K.lookup f_e1 = some ⟨oc_e1, od_e1, .func (PySem.W.fnOf "__init__" "LimitExceeded.__init__" (defArgs s_LimitExceeded_ddinitdd) (defBody s_LimitExceeded_ddinitdd) (defScope s_LimitExceeded_ddinitdd) .none .none dc_e1 pm_e1 an_e1 cd_e1 ct_e1), sl_e1⟩) (c1_e1 : PySem.W.codeIn K cd_e1 "LimitExceeded.__init__" = true)
    (kC_e1 : PySem.W.keepIn K (.ref C_e1) = true) (eC_e1 : PySem.W.subIn K (.ref C_e1) (.type "BaseException") = some true) (tC_e1 : PySem.W.typeIn K (.ref C_e1) = some (.type "type")) (hC_e1 : PySem.W.hasDictIn K C_e1 = true)
    (ca_e1 : PySem.W.findIn K (.ref C_e1) "__class__" = some (some (.builtin "object.__class__"))) (cn_e1 : PySem.W.specialIn K (.builtin "object.__class__") "__get__" = some (some (.builtin "getset_descriptor.__get__"))) (ct2_e1 : PySem.W.takesIn K (.builtin "object.__class__") = some true) (cm_e1 : PySem.W.mroIn K C_e1 (.type "object") = some true)
    (aC_e2 : PySem.W.nsIn K mainGlobals "InvalidSlot" = some (some (.ref C_e2)))
    (xL_e2 : K.lookup C_e2 = some (excClassObj nm_e2 q_e2 C_e2 N_e2 bs_e2 [.ref R, .type "ArithmeticError", .type "Exception", .type "BaseException", .type "object"] true sn_e2 sub_e2 ab_e2 col_e2 dd_e2 m0_e2 m1_e2 m2_e2 m3_e2 m5_e2 "ArithmeticError.__new__"))
    (sa_e2 : PySem.W.findIn K (.ref C_e2) "__setattr__" = some (some (.builtin "object.__setattr__")))
    (ga_e2 : PySem.W.findIn K (.ref C_e2) "__getattribute__" = some (some (.builtin "BaseException.__getattribute__")))
    (gg_e2 : PySem.W.findIn K (.ref C_e2) "__getattr__" = some none)
    (n0_e2 : PySem.W.findIn K (.ref C_e2) "slot" = some none)
    (ov_e2 : PySem.W.excOver K C_e2 [.type "ArithmeticError", .type "Exception", .type "BaseException", .type "object"] = true)
    (k0_e2 : PySem.W.takerIn K C_e2 "slot" = some none)
    (a1_e2 : PySem.W.findIn K (.ref C_e2) "__init__" = some (some (.ref f_e2)))
    (t1_e2 : PySem.W.typeIn K (.ref f_e2) = some (.type "function"))
    (l1_e2 : K.lookup f_e2 = some ⟨oc_e2, od_e2, .func (PySem.W.fnOf "__init__" "InvalidSlot.__init__" (defArgs s_InvalidSlot_ddinitdd) (defBody s_InvalidSlot_ddinitdd) (defScope s_InvalidSlot_ddinitdd) .none .none dc_e2 pm_e2 an_e2 cd_e2 ct_e2), sl_e2⟩) (c1_e2 : PySem.W.codeIn K cd_e2 "InvalidSlot.__init__" = true)
    (kC_e2 : PySem.W.keepIn K (.ref C_e2) = true) (eC_e2 : PySem.W.subIn K (.ref C_e2) (.type "BaseException") = some true) (tC_e2 : PySem.W.typeIn K (.ref C_e2) = some (.type "type")) (hC_e2 : PySem.W.hasDictIn K C_e2 = true)
    (ca_e2 : PySem.W.findIn K (.ref C_e2) "__class__" = some (some (.builtin "object.__class__"))) (cn_e2 : PySem.W.specialIn K (.builtin "object.__class__") "__get__" = some (some (.builtin "getset_descriptor.__get__"))) (ct2_e2 : PySem.W.takesIn K (.builtin "object.__class__") = some true) (cm_e2 : PySem.W.mroIn K C_e2 (.type "object") = some true)
    (aC_e3 : PySem.W.nsIn K mainGlobals "InvalidBound" = some (some (.ref C_e3)))
    (xL_e3 : K.lookup C_e3 = some (excClassObj nm_e3 q_e3 C_e3 N_e3 bs_e3 [.ref R, .type "ArithmeticError", .type "Exception", .type "BaseException", .type "object"] true sn_e3 sub_e3 ab_e3 col_e3 dd_e3 m0_e3 m1_e3 m2_e3 m3_e3 m5_e3 "ArithmeticError.__new__"))
    (sa_e3 : PySem.W.findIn K (.ref C_e3) "__setattr__" = some (some (.builtin "object.__setattr__")))
    (ga_e3 : PySem.W.findIn K (.ref C_e3) "__getattribute__" = some (some (.builtin "BaseException.__getattribute__")))
    (gg_e3 : PySem.W.findIn K (.ref C_e3) "__getattr__" = some none)
    (n0_e3 : PySem.W.findIn K (.ref C_e3) "part" = some none)
    (ov_e3 : PySem.W.excOver K C_e3 [.type "ArithmeticError", .type "Exception", .type "BaseException", .type "object"] = true)
    (k0_e3 : PySem.W.takerIn K C_e3 "part" = some none)
    (a1_e3 : PySem.W.findIn K (.ref C_e3) "__init__" = some (some (.ref f_e3)))
    (t1_e3 : PySem.W.typeIn K (.ref f_e3) = some (.type "function"))
    (l1_e3 : K.lookup f_e3 = some ⟨oc_e3, od_e3, .func (PySem.W.fnOf "__init__" "InvalidBound.__init__" (defArgs s_InvalidBound_ddinitdd) (defBody s_InvalidBound_ddinitdd) (defScope s_InvalidBound_ddinitdd) .none .none dc_e3 pm_e3 an_e3 cd_e3 ct_e3), sl_e3⟩) (c1_e3 : PySem.W.codeIn K cd_e3 "InvalidBound.__init__" = true)
    (kC_e3 : PySem.W.keepIn K (.ref C_e3) = true) (eC_e3 : PySem.W.subIn K (.ref C_e3) (.type "BaseException") = some true) (tC_e3 : PySem.W.typeIn K (.ref C_e3) = some (.type "type")) (hC_e3 : PySem.W.hasDictIn K C_e3 = true)
    (ca_e3 : PySem.W.findIn K (.ref C_e3) "__class__" = some (some (.builtin "object.__class__"))) (cn_e3 : PySem.W.specialIn K (.builtin "object.__class__") "__get__" = some (some (.builtin "getset_descriptor.__get__"))) (ct2_e3 : PySem.W.takesIn K (.builtin "object.__class__") = some true) (cm_e3 : PySem.W.mroIn K C_e3 (.type "object") = some true)
    (aD_RetryError : PySem.W.nsIn K mainGlobals "RetryError" = some (some (.ref D_RetryError))) (uc_RetryError : PySem.W.clsIn K D_RetryError = some uk_RetryError) (ut_RetryError : PySem.W.typeIn K (.ref D_RetryError) = some (.type "type"))
    (y00 : PySem.W.subIn K (.ref C_e0) (.ref C_e0) = some true)
    (y01 : PySem.W.subIn K (.ref C_e0) (.ref C_e1) = some false)
    (y10 : PySem.W.subIn K (.ref C_e1) (.ref C_e0) = some false)
    (y11 : PySem.W.subIn K (.ref C_e1) (.ref C_e1) = some true)
    (y22 : PySem.W.subIn K (.ref C_e2) (.ref C_e2) = some true)
    (y23 : PySem.W.subIn K (.ref C_e2) (.ref C_e3) = some false)
    (y32 : PySem.W.subIn K (.ref C_e3) (.ref C_e2) = some false)
    (y33 : PySem.W.subIn K (.ref C_e3) (.ref C_e3) = some true)
    (ya2 : PySem.W.subIn K (.ref C_e2) (.type "ArithmeticError") = some true)
    (ya3 : PySem.W.subIn K (.ref C_e3) (.type "ArithmeticError") = some true)
    (yn23 : C_e2 ≠ C_e3)
    (yn32 : C_e3 ≠ C_e2)
    (c_tM : PySem.W.nsIn K mainGlobals "_MOST_GAPS" = some (some (.int 20 tM)))
    (c_tF : PySem.W.nsIn K mainGlobals "_GREATEST_FACTOR" = some (some (.int 1000 tF)))
    (c_tL : PySem.W.nsIn K mainGlobals "LAST_GROWING" = some (some (.int 1000 tL))) :
    LamX.LawCalm l w K 10 63 "_law_script" mg fa h := by
  have e := hfa.symm.trans (PySem.W.mg_of X G Aa0)
  cases e
  have T : Txt K mg C := ⟨⟨pg, hd, po, sa⟩, n0, n1, n2, PySem.W.mg_of X G aC, PySem.W.mg_none_of X G z_len, PySem.W.mg_none_of X G z_isinstance, PySem.W.mg_none_of X G z_int, PySem.W.mg_none_of X G z_bool, PySem.W.mg_none_of X G z_list, PySem.W.mg_none_of X G z_tuple, PySem.W.mg_none_of X G z_str, PySem.W.mg_none_of X G z_all, PySem.W.mg_none_of X G z_range, PySem.W.mg_none_of X G z_divmod, PySem.W.mg_none_of X G z_sum, PySem.W.mg_none_of X G z_max, PySem.W.mg_none_of X G z_min, PySem.W.mg_none_of X G z_sorted, PySem.W.mg_none_of X G z_set, PySem.W.mg_none_of X G z_any, PySem.W.mg_none_of X G z_enumerate, ⟨tM, PySem.W.mg_of X G c_tM⟩, hlong, ⟨tF, PySem.W.mg_of X G c_tF⟩, ⟨tL, PySem.W.mg_of X G c_tL⟩⟩
  have M : Mk K C fr6 := ⟨mk, Ar6, Ir6, kc⟩
  have Fa1 := fun_mk (st := s_is_integer) La1 Ca1 Ka1
  have Fa2 := fun_mk (st := s_are_gaps) La2 Ca2 Ka2
  have Fa3 := fun_mk (st := s_is_tail) La3 Ca3 Ka3
  have Fa4 := fun_mk (st := s_sums) La4 Ca4 Ka4
  have Fa5 := fun_mk (st := s_power) La5 Ca5 Ka5
  have Fr6 := fun_mk (st := s_Rule_ddinitdd) Lr6 Cr6 Kr6
  have Fr8 := fun_mk (st := s_Rule_first_repeating) Lr8 Cr8 Kr8
  have Fr9 := fun_mk (st := s_Rule_period) Lr9 Cr9 Kr9
  have Fr10 := fun_mk (st := s_Rule_gaps) Lr10 Cr10 Kr10
  have Fr11 := fun_mk (st := s_Rule_tail) Lr11 Cr11 Kr11
  have Fr12 := fun_mk (st := s_Rule_check_attempt) Lr12 Cr12 Kr12
  have Fr13 := fun_mk (st := s_Rule_offset_of) Lr13 Cr13 Kr13
  have Fr14 := fun_mk (st := s_Rule_offset) Lr14 Cr14 Kr14
  have Fa16 := fun_mk (st := s_law_source_of) La16 Ca16 Ka16
  have Fa17 := fun_mk (st := s_law_draw) La17 Ca17 Ka17
  have Fa18 := fun_mk (st := s_law_choice) La18 Ca18 Ka18
  have Fa19 := fun_mk (st := s_law_cell_at) La19 Ca19 Ka19
  have Fa20 := fun_mk (st := s_law_gaps) La20 Ca20 Ka20
  have Fa21 := fun_mk (st := s_law_tail) La21 Ca21 Ka21
  have Fa22 := fun_mk (st := s_listed_offsets) La22 Ca22 Ka22
  have Fa23 := fun_mk (st := s_first_at_least) La23 Ca23 Ka23
  have Fr24 := fun_mk (st := s_Rule_surely_short) Lr24 Cr24 Kr24
  have Fr25 := fun_mk (st := s_Rule_first_growing) Lr25 Cr25 Kr25
  have Fr26 := fun_mk (st := s_Rule_first_repeated) Lr26 Cr26 Kr26
  have Fr27 := fun_mk (st := s_Rule_first_from) Lr27 Cr27 Kr27
  have Fr28 := fun_mk (st := s_Rule_attempt_at) Lr28 Cr28 Kr28
  have Fa29 := fun_mk (st := s_offsets_beyond) La29 Ca29 Ka29
  have Fa30 := fun_mk (st := s_telling_offsets) La30 Ca30 Ka30
  have Fa31 := fun_mk (st := s_pairs_by_difference) La31 Ca31 Ka31
  have Fa32 := fun_mk (st := s_most_shared) La32 Ca32 Ka32
  have Fa33 := fun_mk (st := s_fewest_repeating) La33 Ca33 Ka33
  have Fa34 := fun_mk (st := s_first_repetition) La34 Ca34 Ka34
  have Fa35 := fun_mk (st := s_is_spread) La35 Ca35 Ka35
  have Fa36 := fun_mk (st := s_check_distance) La36 Ca36 Ka36
  have Fa37 := fun_mk (st := s_reaching_repeated) La37 Ca37 Ka37
  have Fa38 := fun_mk (st := s_reaching) La38 Ca38 Ka38
  have Fa39 := fun_mk (st := s_shared_attempts) La39 Ca39 Ka39
  have Fa40 := fun_mk (st := s_next_distance) La40 Ca40 Ka40
  have Fa41 := fun_mk (st := s_check_bound) La41 Ca41 Ka41
  have Fa42 := fun_mk (st := s_single_offsets) La42 Ca42 Ka42
  have Fa43 := fun_mk (st := s_least_by_residue) La43 Ca43 Ka43
  have Fa44 := fun_mk (st := s_count_repeating) La44 Ca44 Ka44
  have Fa45 := fun_mk (st := s_count_growing) La45 Ca45 Ka45
  have Fa46 := fun_mk (st := s_count_distances) La46 Ca46 Ka46
  have Fa47 := fun_mk (st := s_is_attempt) La47 Ca47 Ka47
  have Fa48 := fun_mk (st := s_is_pair) La48 Ca48 Ka48
  have Fa49 := fun_mk (st := s_difference) La49 Ca49 Ka49
  have Fa50 := fun_mk (st := s_is_repetition) La50 Ca50 Ka50
  have Fa51 := fun_mk (st := s_law_names_right) La51 Ca51 Ka51
  have Fa52 := fun_mk (st := s_law_error) La52 Ca52 Ka52
  have Fa0 := fun_mk (st := s_law) La0 Ca0 Ka0
  have ba1 := Fa1.binds (ps := ["value"]) fun _ _ _ _ _ _ us hl => match us, hl with | [_], _ => rfl
  have ga1 := PySem.W.mg_of X G Aa1
  have ba2 := Fa2.binds (ps := ["value", "most"]) fun _ _ _ _ _ _ us hl => match us, hl with | [_, _], _ => rfl
  have ga2 := PySem.W.mg_of X G Aa2
  have ba3 := Fa3.binds (ps := ["value", "many"]) fun _ _ _ _ _ _ us hl => match us, hl with | [_, _], _ => rfl
  have ga3 := PySem.W.mg_of X G Aa3
  have ba4 := Fa4.binds (ps := ["gaps"]) fun _ _ _ _ _ _ us hl => match us, hl with | [_], _ => rfl
  have ga4 := PySem.W.mg_of X G Aa4
  have ba5 := Fa5.binds (ps := ["base", "exponent"]) fun _ _ _ _ _ _ us hl => match us, hl with | [_, _], _ => rfl
  have ga5 := PySem.W.mg_of X G Aa5
  have br6 := Fr6.binds (ps := ["self", "gaps", "tail"]) fun _ _ _ _ _ _ us hl => match us, hl with | [_, _, _], _ => rfl
  have er6 : Meth K C "__init__" fr6 := ⟨Ar6, Ir6, Kr6⟩
  have br8 := Fr8.binds (ps := ["self"]) fun _ _ _ _ _ _ us hl => match us, hl with | [_], _ => rfl
  have er8 : Meth K C "first_repeating" fr8 := ⟨Ar8, Ir8, Kr8⟩
  have br9 := Fr9.binds (ps := ["self"]) fun _ _ _ _ _ _ us hl => match us, hl with | [_], _ => rfl
  have er9 : Meth K C "period" fr9 := ⟨Ar9, Ir9, Kr9⟩
  have br10 := Fr10.binds (ps := ["self"]) fun _ _ _ _ _ _ us hl => match us, hl with | [_], _ => rfl
  have er10 : Meth K C "gaps" fr10 := ⟨Ar10, Ir10, Kr10⟩
  have br11 := Fr11.binds (ps := ["self"]) fun _ _ _ _ _ _ us hl => match us, hl with | [_], _ => rfl
  have er11 : Meth K C "tail" fr11 := ⟨Ar11, Ir11, Kr11⟩
  have br12 := Fr12.binds (ps := ["self", "attempt"]) fun _ _ _ _ _ _ us hl => match us, hl with | [_, _], _ => rfl
  have er12 : Meth K C "_check_attempt" fr12 := ⟨Ar12, Ir12, Kr12⟩
  have br13 := Fr13.binds (ps := ["self", "attempt"]) fun _ _ _ _ _ _ us hl => match us, hl with | [_, _], _ => rfl
  have er13 : Meth K C "_offset_of" fr13 := ⟨Ar13, Ir13, Kr13⟩
  have br14 := Fr14.binds (ps := ["self", "attempt"]) fun _ _ _ _ _ _ us hl => match us, hl with | [_, _], _ => rfl
  have er14 : Meth K C "offset" fr14 := ⟨Ar14, Ir14, Kr14⟩
  have ba16 := Fa16.binds (ps := ["_law_cell"]) fun _ _ _ _ _ _ us hl => match us, hl with | [_], _ => rfl
  have ga16 := PySem.W.mg_of X G Aa16
  have ba17 := Fa17.binds (ps := ["_law_source", "_law_bound"]) fun _ _ _ _ _ _ us hl => match us, hl with | [_, _], _ => rfl
  have ga17 := PySem.W.mg_of X G Aa17
  have ba18 := Fa18.binds (ps := ["_law_source", "_law_options"]) fun _ _ _ _ _ _ us hl => match us, hl with | [_, _], _ => rfl
  have ga18 := PySem.W.mg_of X G Aa18
  have ba19 := Fa19.binds (ps := ["_law_script", "_law_index"]) fun _ _ _ _ _ _ us hl => match us, hl with | [_, _], _ => rfl
  have ga19 := PySem.W.mg_of X G Aa19
  have ba20 := Fa20.binds (ps := ["_law_source"]) fun _ _ _ _ _ _ us hl => match us, hl with | [_], _ => rfl
  have ga20 := PySem.W.mg_of X G Aa20
  have ba21 := Fa21.binds (ps := ["_law_source", "_law_gaps_here", "_law_words"]) fun _ _ _ _ _ _ us hl => match us, hl with | [_, _, _], _ => rfl
  have ga21 := PySem.W.mg_of X G Aa21
  have ba22 := Fa22.binds (ps := ["rule"]) fun _ _ _ _ _ _ us hl => match us, hl with | [_], _ => rfl
  have ga22 := PySem.W.mg_of X G Aa22
  have ba23 := Fa23.binds (ps := ["offsets", "distance"]) fun _ _ _ _ _ _ us hl => match us, hl with | [_, _], _ => rfl
  have ga23 := PySem.W.mg_of X G Aa23
  have br24 := Fr24.binds (ps := ["self", "way"]) fun _ _ _ _ _ _ us hl => match us, hl with | [_, _], _ => rfl
  have er24 : Meth K C "_surely_short" fr24 := ⟨Ar24, Ir24, Kr24⟩
  have br25 := Fr25.binds (ps := ["self", "distance"]) fun _ _ _ _ _ _ us hl => match us, hl with | [_, _], _ => rfl
  have er25 : Meth K C "_first_growing" fr25 := ⟨Ar25, Ir25, Kr25⟩
  have br26 := Fr26.binds (ps := ["self", "distance"]) fun _ _ _ _ _ _ us hl => match us, hl with | [_, _], _ => rfl
  have er26 : Meth K C "_first_repeated" fr26 := ⟨Ar26, Ir26, Kr26⟩
  have br27 := Fr27.binds (ps := ["self", "distance"]) fun _ _ _ _ _ _ us hl => match us, hl with | [_, _], _ => rfl
  have er27 : Meth K C "first_from" fr27 := ⟨Ar27, Ir27, Kr27⟩
  have br28 := Fr28.binds (ps := ["self", "distance"]) fun _ _ _ _ _ _ us hl => match us, hl with | [_, _], _ => rfl
  have er28 : Meth K C "attempt_at" fr28 := ⟨Ar28, Ir28, Kr28⟩
  have ba29 := Fa29.binds (ps := ["rule", "reach"]) fun _ _ _ _ _ _ us hl => match us, hl with | [_, _], _ => rfl
  have ga29 := PySem.W.mg_of X G Aa29
  have ba30 := Fa30.binds (ps := ["rule"]) fun _ _ _ _ _ _ us hl => match us, hl with | [_], _ => rfl
  have ga30 := PySem.W.mg_of X G Aa30
  have ba31 := Fa31.binds (ps := ["offsets"]) fun _ _ _ _ _ _ us hl => match us, hl with | [_], _ => rfl
  have ga31 := PySem.W.mg_of X G Aa31
  have ba32 := Fa32.binds (ps := ["rule"]) fun _ _ _ _ _ _ us hl => match us, hl with | [_], _ => rfl
  have ga32 := PySem.W.mg_of X G Aa32
  have ba33 := Fa33.binds (ps := ["offsets"]) fun _ _ _ _ _ _ us hl => match us, hl with | [_], _ => rfl
  have ga33 := PySem.W.mg_of X G Aa33
  have ba34 := Fa34.binds (ps := ["rule"]) fun _ _ _ _ _ _ us hl => match us, hl with | [_], _ => rfl
  have ga34 := PySem.W.mg_of X G Aa34
  have ba35 := Fa35.binds (ps := ["rule"]) fun _ _ _ _ _ _ us hl => match us, hl with | [_], _ => rfl
  have ga35 := PySem.W.mg_of X G Aa35
  have ba36 := Fa36.binds (ps := ["distance"]) fun _ _ _ _ _ _ us hl => match us, hl with | [_], _ => rfl
  have ga36 := PySem.W.mg_of X G Aa36
  have ba37 := Fa37.binds (ps := ["rule", "distance", "later"]) fun _ _ _ _ _ _ us hl => match us, hl with | [_, _, _], _ => rfl
  have ga37 := PySem.W.mg_of X G Aa37
  have ba38 := Fa38.binds (ps := ["rule", "distance"]) fun _ _ _ _ _ _ us hl => match us, hl with | [_, _], _ => rfl
  have ga38 := PySem.W.mg_of X G Aa38
  have ba39 := Fa39.binds (ps := ["rule", "distance"]) fun _ _ _ _ _ _ us hl => match us, hl with | [_, _], _ => rfl
  have ga39 := PySem.W.mg_of X G Aa39
  have ba40 := Fa40.binds (ps := ["rule", "distance"]) fun _ _ _ _ _ _ us hl => match us, hl with | [_, _], _ => rfl
  have ga40 := PySem.W.mg_of X G Aa40
  have ba41 := Fa41.binds (ps := ["part", "value", "low", "high"]) fun _ _ _ _ _ _ us hl => match us, hl with | [_, _, _, _], _ => rfl
  have ga41 := PySem.W.mg_of X G Aa41
  have ba42 := Fa42.binds (ps := ["rule"]) fun _ _ _ _ _ _ us hl => match us, hl with | [_], _ => rfl
  have ga42 := PySem.W.mg_of X G Aa42
  have ba43 := Fa43.binds (ps := ["rule"]) fun _ _ _ _ _ _ us hl => match us, hl with | [_], _ => rfl
  have ga43 := PySem.W.mg_of X G Aa43
  have ba44 := Fa44.binds (ps := ["rule", "limit"]) fun _ _ _ _ _ _ us hl => match us, hl with | [_, _], _ => rfl
  have ga44 := PySem.W.mg_of X G Aa44
  have ba45 := Fa45.binds (ps := ["rule", "limit", "first"]) fun _ _ _ _ _ _ us hl => match us, hl with | [_, _, _], _ => rfl
  have ga45 := PySem.W.mg_of X G Aa45
  have ba46 := Fa46.binds (ps := ["rule", "limit"]) fun _ _ _ _ _ _ us hl => match us, hl with | [_, _], _ => rfl
  have ga46 := PySem.W.mg_of X G Aa46
  have ba47 := Fa47.binds (ps := ["rule", "value"]) fun _ _ _ _ _ _ us hl => match us, hl with | [_, _], _ => rfl
  have ga47 := PySem.W.mg_of X G Aa47
  have ba48 := Fa48.binds (ps := ["rule", "value"]) fun _ _ _ _ _ _ us hl => match us, hl with | [_, _], _ => rfl
  have ga48 := PySem.W.mg_of X G Aa48
  have ba49 := Fa49.binds (ps := ["rule", "pair"]) fun _ _ _ _ _ _ us hl => match us, hl with | [_, _], _ => rfl
  have ga49 := PySem.W.mg_of X G Aa49
  have ba50 := Fa50.binds (ps := ["rule", "value"]) fun _ _ _ _ _ _ us hl => match us, hl with | [_, _], _ => rfl
  have ga50 := PySem.W.mg_of X G Aa50
  have ba51 := Fa51.binds (ps := ["_law_plan", "_law_apart"]) fun _ _ _ _ _ _ us hl => match us, hl with | [_, _], _ => rfl
  have ga51 := PySem.W.mg_of X G Aa51
  have ba52 := Fa52.binds (ps := ["_law_ask"]) fun _ _ _ _ _ _ us hl => match us, hl with | [_], _ => rfl
  have ga52 := PySem.W.mg_of X G Aa52
  have E_e0 := et_InvalidAttempt X G aC_e0 xL_e0 sa_e0 ga_e0 gg_e0 n0_e0 ov_e0 k0_e0 a1_e0 t1_e0 l1_e0 c1_e0 kC_e0 eC_e0 tC_e0 hC_e0 ca_e0 cn_e0 ct2_e0 cm_e0
  have E_e1 := et_LimitExceeded X G aC_e1 xL_e1 sa_e1 ga_e1 gg_e1 n0_e1 ov_e1 k0_e1 a1_e1 t1_e1 l1_e1 c1_e1 kC_e1 eC_e1 tC_e1 hC_e1 ca_e1 cn_e1 ct2_e1 cm_e1
  have E_e2 := et_InvalidSlot X G aC_e2 xL_e2 sa_e2 ga_e2 gg_e2 n0_e2 ov_e2 k0_e2 a1_e2 t1_e2 l1_e2 c1_e2 kC_e2 eC_e2 tC_e2 hC_e2 ca_e2 cn_e2 ct2_e2 cm_e2
  have E_e3 := et_InvalidBound X G aC_e3 xL_e3 sa_e3 ga_e3 gg_e3 n0_e3 ov_e3 k0_e3 a1_e3 t1_e3 l1_e3 c1_e3 kC_e3 eC_e3 tC_e3 hC_e3 ca_e3 cn_e3 ct2_e3 cm_e3
  have XErs : Ers K mg C_e0 f_e0 C_e1 f_e1 := ⟨E_e0.1, E_e1.1⟩
  have YC : Cat K C_e0 C_e1 := ⟨exm_any2 (exm_own E_e0.2.sb E_e0.2.cl E_e0.1.tyC y00) (exm_own E_e1.2.sb E_e1.2.cl E_e1.1.tyC y01), exm_any2 (exm_own E_e0.2.sb E_e0.2.cl E_e0.1.tyC y10) (exm_own E_e1.2.sb E_e1.2.cl E_e1.1.tyC y11)⟩
  have YT : ErrTxt K mg C_e2 C_e3 D_RetryError := ⟨E_e2.1.gC, E_e3.1.gC, PySem.W.mg_of X G aD_RetryError, PySem.W.mg_none_of X G z_ArithmeticError, PySem.W.mg_none_of X G z_isinstance, E_e2.2, E_e3.2, (exm_own E_e2.2.sb E_e2.2.cl E_e2.1.tyC y22), (exm_own E_e2.2.sb E_e2.2.cl E_e2.1.tyC y32), (exm_own E_e3.2.sb E_e3.2.cl E_e3.1.tyC y33), kit_bltn (by decide +kernel) ya2, kit_bltn (by decide +kernel) ya3, kit_own E_e3.2.cl E_e3.1.tyC y23 yn23, kit_own E_e2.2.cl E_e2.1.tyC y32 yn32, n0_e2, n0_e3⟩
  have hTb : ∀ p ∈ [(coa0, Pta0)], h.get? p.2 = some { cls := .none, data := .fields #[] } ∧ K.lookup p.2 = none ∧ PySem.W.CodeHd h p.1 p.2 := by
    intro p hp
    simp only [List.mem_cons, List.not_mem_nil, or_false] at hp
    rcases hp with rfl
    · exact ⟨hts _ lma0, lna0, PySem.W.codeHd_of_K X lha0⟩
  refine ⟨PySem.W.fnOf "law" "law" (defArgs s_law) (defBody s_law) (defScope s_law) .none kVa0 dca0 pma0 ana0 (.ref coa0) cta0, [(coa0, Pta0)], spLawT K [(Pta0, "law.<locals>.<lambda>")], hTb, fun s v => .of_eq rfl, (fun H a ns hn hH hS => ⟨a, ns, rfl, hS, hn, tabs_one (q := "law.<locals>.<lambda>") (hH _ (List.mem_singleton.mpr rfl)), fun _ => rfl⟩), fun base _ _ TBs => ?_⟩
  have TBa0 := TBs (coa0, Pta0) (by simp)
  have G0 := ok_isInt (mg := mg) (P := l.prog) (w := w) (base := base) Fa1 T
  have G6 := ok_sums (mg := mg) (P := l.prog) (w := w) (base := base) Fa4
  have G10 := ok_init (mg := mg) (P := l.prog) (w := w) (base := base) Fr6 T Fa1 ba1 ga1 Fa2 ba2 ga2 Fa3 ba3 ga3 Fa4 ba4 ga4
  have G14 := ok_frA (mg := mg) (P := l.prog) (w := w) (base := base) Fr8 T
  have G18 := ok_per (mg := mg) (P := l.prog) (w := w) (base := base) Fr9 T Fr8 br8 er8
  have G20 := ok_gaps (mg := mg) (P := l.prog) (w := w) (base := base) Fr10 T
  have G22 := ok_tail (mg := mg) (P := l.prog) (w := w) (base := base) Fr11 T
  have G24 := ok_check (mg := mg) (P := l.prog) (w := w) (base := base) Fr12 T Fa1 ba1 ga1
  have G26 := ok_off (mg := mg) (P := l.prog) (w := w) (base := base) Fr13 T Fr8 br8 er8 Fr9 br9 er9 Fa5 ba5 ga5
  have G28 := ok_offset (mg := mg) (P := l.prog) (w := w) (base := base) Fr14 T er12 br12 er13 br13 G24 G26
  have G32 := ok_srcOf (mg := mg) (P := l.prog) (w := w) (base := base) Fa16 T
  have G34 := ok_next (mg := mg) (P := l.prog) (w := w) (base := base) Fa17 T
  have G36 := ok_one (mg := mg) (P := l.prog) (w := w) (base := base) Fa18 T Fa17 ba17 ga17
  have G38 := ok_cell (mg := mg) (P := l.prog) (w := w) (base := base) Fa19 T
  have G40 := ok_gps (mg := mg) (P := l.prog) (w := w) (base := base) Fa20 T (PySem.W.mg_none_of X G z_min) G34 ba17 ga17 Ka17 G36 ba18 ga18 Ka18
  have G42 := ok_tl (mg := mg) (P := l.prog) (w := w) (base := base) Fa21 T G34 ba17 ga17 Ka17 G36 ba18 ga18 Ka18
  have G44 := ok_lo (mg := mg) (P := l.prog) (w := w) (base := base) Fa22 T G6 ba4 ga4 Ka4 G20 br10 er10
  have G50 := ok_fg (mg := mg) (P := l.prog) (w := w) (base := base) Fr25 T Fr24 br24 er24 G26 br13 er13 Fa5 ba5 ga5
  have G52 := ok_frp (mg := mg) (P := l.prog) (w := w) (base := base) Fr26 T Fr8 br8 er8 Fr9 br9 er9 Fa23 ba23 ga23
  have G54 := ok_ff (mg := mg) (P := l.prog) (w := w) (base := base) Fr27 T Fa1 ba1 ga1 Fa23 ba23 ga23 G50 br25 er25 G52 br26 er26
  have G56 := ok_aa (mg := mg) (P := l.prog) (w := w) (base := base) Fr28 T G54 br27 er27 G26 br13 er13
  have G58 := ok_ob (mg := mg) (P := l.prog) (w := w) (base := base) Fa29 T G44 ba22 ga22 Ka22 G22 br11 er11 G20 br10 er10
  have G60 := ok_to2 (mg := mg) (P := l.prog) (w := w) (base := base) Fa30 T G44 ba22 ga22 Ka22 G14 br8 er8 G28 br14 er14 G22 br11 er11 G58 ba29 ga29 Ka29
  have G62 := ok_pd (mg := mg) (P := l.prog) (w := w) (base := base) Fa31 T
  have G64 := ok_ms3 (mg := mg) (P := l.prog) (w := w) (base := base) Fa32 T G14 br8 er8 G60 ba30 ga30 Ka30 G62 ba31 ga31 Ka31
  have G66 := ok_fw (mg := mg) (P := l.prog) (w := w) (base := base) Fa33 T
  have G68 := ok_fp (mg := mg) (P := l.prog) (w := w) (base := base) Fa34 T G60 ba30 ga30 Ka30 G66 ba33 ga33 Ka33 G62 ba31 ga31 Ka31
  have G70 := ok_sd2 (mg := mg) (P := l.prog) (w := w) (base := base) Fa35 T G68 ba34 ga34 Ka34
  have G72 := ok_ckD (mg := mg) (P := l.prog) (w := w) (base := base) Fa36 T G0 ba1 ga1 Ka1
  have G74 := ok_rr (mg := mg) (P := l.prog) (w := w) (base := base) Fa37 T G54 br27 er27 G28 br14 er14
  have G76 := ok_rg (mg := mg) (P := l.prog) (w := w) (base := base) Fa38 T G14 br8 er8 G58 ba29 ga29 Ka29 G20 br10 er10 G74 ba37 ga37 Ka37
  have G78 := ok_sg (mg := mg) (P := l.prog) (w := w) (base := base) Fa39 T G72 ba36 ga36 Ka36 G76 ba38 ga38 Ka38 G14 br8 er8
  have G80 := ok_nd (mg := mg) (P := l.prog) (w := w) (base := base) Fa40 T G72 ba36 ga36 Ka36 G76 ba38 ga38 Ka38
  have G82 := ok_cb (mg := mg) (P := l.prog) (w := w) (base := base) Fa41 T G0 ba1 ga1 Ka1
  have G84 := ok_so (mg := mg) (P := l.prog) (w := w) (base := base) Fa42 T G44 ba22 ga22 Ka22 G14 br8 er8
  have G86 := ok_lb (mg := mg) (P := l.prog) (w := w) (base := base) Fa43 T G44 ba22 ga22 Ka22 G14 br8 er8 G28 br14 er14 G18 br9 er9
  have G88 := ok_cr (mg := mg) (P := l.prog) (w := w) (base := base) Fa44 T G18 br9 er9 G86 ba43 ga43 Ka43 G62 ba31 ga31 Ka31 G84 ba42 ga42 Ka42
  have G90 := ok_cg (mg := mg) (P := l.prog) (w := w) (base := base) Fa45 T G58 ba29 ga29 Ka29 G56 br28 er28
  have G92 := ok_cd (mg := mg) (P := l.prog) (w := w) (base := base) Fa46 T G82 ba41 ga41 Ka41 G14 br8 er8 G88 ba44 ga44 Ka44 G60 ba30 ga30 Ka30 G62 ba31 ga31 Ka31 G22 br11 er11 G90 ba45 ga45 Ka45
  have G94 := ok_isAny (mg := mg) (P := l.prog) (w := w) (base := base) Fa1 T
  have G96 := ok_chkR (mg := mg) (P := l.prog) (w := w) (base := base) Fr12 T XErs Fa1 ba1 ga1
  have G98 := ok_offsetR (mg := mg) (P := l.prog) (w := w) (base := base) Fr14 T er12 br12 er13 br13 G96 G26
  have G102 := ok_isAtt (mg := mg) (P := l.prog) (w := w) (base := base) Fa47 T XErs YC er14 br14 G98
  have G104 := ok_isPair (mg := mg) (P := l.prog) (w := w) (base := base) Fa48 T G102 ba47 ga47 Ka47
  have G106 := ok_dif (mg := mg) (P := l.prog) (w := w) (base := base) Fa49 T er14 br14 G28
  have G108 := ok_isRep (mg := mg) (P := l.prog) (w := w) (base := base) Fa50 T G104 ba48 ga48 Ka48 G106 ba49 ga49 Ka49
  have G110 := ok_ckDR (mg := mg) (P := l.prog) (w := w) (base := base) Fa36 T E_e2.1 G94 ba1 ga1 Ka1
  have G112 := ok_cbR (mg := mg) (P := l.prog) (w := w) (base := base) Fa41 T E_e3.1 G94 ba1 ga1 Ka1
  have G114 := ok_sgR (mg := mg) (P := l.prog) (w := w) (base := base) Fa39 T G110 ba36 ga36 Ka36
  have G116 := ok_ndR (mg := mg) (P := l.prog) (w := w) (base := base) Fa40 T G110 ba36 ga36 Ka36
  have G118 := ok_cdR (mg := mg) (P := l.prog) (w := w) (base := base) Fa46 T G112 ba41 ga41 Ka41
  have G120 := ok_nr (mg := mg) (P := l.prog) (w := w) (base := base) Fa51 T Fa35 Fa34 Fa32 Fa50 Fa39 Fa40 Fa46 G70 ba35 ga35 Ka35 G68 ba34 ga34 Ka34 G64 ba32 ga32 Ka32 G108 ba50 ga50 Ka50 G78 ba39 ga39 Ka39 G80 ba40 ga40 Ka40 G92 ba46 ga46 Ka46
  exact ok_law (P := l.prog) (w := w) (base := base) La0 Ca0 T M YT TBa0 (List.mem_singleton.mpr rfl) (fun p hp _ => by rw [List.mem_singleton.mp hp]) Fa52 ba52 ga52 G10 br6 G38 ba19 ga19 Ka19 G32 ba16 ga16 Ka16 G40 ba20 ga20 Ka20 G42 ba21 ga21 Ka21 G34 ba17 ga17 Ka17 G114 ba39 ga39 Ka39 G116 ba40 ga40 Ka40 G118 G92 ba46 ga46 Ka46 G120 ba51 ga51 Ka51
theorem long_of {p : Program} {mg : Str → Option Value} {h : Heap} (x : PySem.W.XL p [("_LONGEST_GAP", .int 1000000000000)] mg h) : ∃ t, mg "_LONGEST_GAP" = some (.int 1000000000000 t) := by
  obtain ⟨v, e, r⟩ := x.2.val _ (List.mem_singleton.mpr rfl)
  cases r
  exact ⟨_, e⟩
end RS
open PySem PySem.W PyProof.Rows
set_option maxRecDepth 100000 in
set_option maxHeartbeats 0 in
theorem PySem.Challenge.cw_retryslots_k20_distances_refused_holds : PySem.Challenge.rw_retryslots_k20_distances_refused.Holds := by
  w_on; o_law; k_head; (case hw => w_witness2)
  k_fill
  refine LamX.walk_calm (l := PySem.Challenge.rw_retryslots_k20_distances_refused) (n := 63) (k := 10) (x := "_law_script") rfl (by decide) rfl ⟨rfl, by decide, by decide⟩ (fun w h Y => PySem.W.km_in_of Y) ?F
  case F =>
    intro w mg fa h Y KX G hmg XX
    refine' RS.all_mk (fun P hP => PySem.W.km_tabs_of Y P hP) KX G hmg (RS.long_of XX) ?Aa1 ?La1 ?Ca1 ?Ka1 ?Aa2 ?La2 ?Ca2 ?Ka2 ?Aa3 ?La3 ?Ca3 ?Ka3 ?Aa4 ?La4 ?Ca4 ?Ka4 ?Aa5 ?La5 ?Ca5 ?Ka5 ?Ar6 ?Ir6 ?Lr6 ?Cr6 ?Kr6 ?Ar8 ?Ir8 ?Lr8 ?Cr8 ?Kr8 ?Ar9 ?Ir9 ?Lr9 ?Cr9 ?Kr9 ?Ar10 ?Ir10 ?Lr10 ?Cr10 ?Kr10 ?Ar11 ?Ir11 ?Lr11 ?Cr11 ?Kr11 ?Ar12 ?Ir12 ?Lr12 ?Cr12 ?Kr12 ?Ar13 ?Ir13 ?Lr13 ?Cr13 ?Kr13 ?Ar14 ?Ir14 ?Lr14 ?Cr14 ?Kr14 ?Aa16 ?La16 ?Ca16 ?Ka16 ?Aa17 ?La17 ?Ca17 ?Ka17 ?Aa18 ?La18 ?Ca18 ?Ka18 ?Aa19 ?La19 ?Ca19 ?Ka19 ?Aa20 ?La20 ?Ca20 ?Ka20 ?Aa21 ?La21 ?Ca21 ?Ka21 ?Aa22 ?La22 ?Ca22 ?Ka22 ?Aa23 ?La23 ?Ca23 ?Ka23 ?Ar24 ?Ir24 ?Lr24 ?Cr24 ?Kr24 ?Ar25 ?Ir25 ?Lr25 ?Cr25 ?Kr25 ?Ar26 ?Ir26 ?Lr26 ?Cr26 ?Kr26 ?Ar27 ?Ir27 ?Lr27 ?Cr27 ?Kr27 ?Ar28 ?Ir28 ?Lr28 ?Cr28 ?Kr28 ?Aa29 ?La29 ?Ca29 ?Ka29 ?Aa30 ?La30 ?Ca30 ?Ka30 ?Aa31 ?La31 ?Ca31 ?Ka31 ?Aa32 ?La32 ?Ca32 ?Ka32 ?Aa33 ?La33 ?Ca33 ?Ka33 ?Aa34 ?La34 ?Ca34 ?Ka34 ?Aa35 ?La35 ?Ca35 ?Ka35 ?Aa36 ?La36 ?Ca36 ?Ka36 ?Aa37 ?La37 ?Ca37 ?Ka37 ?Aa38 ?La38 ?Ca38 ?Ka38 ?Aa39 ?La39 ?Ca39 ?Ka39 ?Aa40 ?La40 ?Ca40 ?Ka40 ?Aa41 ?La41 ?Ca41 ?Ka41 ?Aa42 ?La42 ?Ca42 ?Ka42 ?Aa43 ?La43 ?Ca43 ?Ka43 ?Aa44 ?La44 ?Ca44 ?Ka44 ?Aa45 ?La45 ?Ca45 ?Ka45 ?Aa46 ?La46 ?Ca46 ?Ka46 ?Aa47 ?La47 ?Ca47 ?Ka47 ?Aa48 ?La48 ?Ca48 ?Ka48 ?Aa49 ?La49 ?Ca49 ?Ka49 ?Aa50 ?La50 ?Ca50 ?Ka50 ?Aa51 ?La51 ?Ca51 ?Ka51 ?Aa52 ?La52 ?Ca52 ?Ka52 ?Aa0 ?La0 ?Ca0 ?Ka0 ?lca0 ?lta0 ?lha0 ?lna0 ?lma0 ?aC ?pg ?hd ?po ?sa ?mk ?kc ?n0 ?n1 ?n2 ?z_len ?z_isinstance ?z_int ?z_bool ?z_list ?z_tuple ?z_str ?z_all ?z_range ?z_divmod ?z_sum ?z_max ?z_min ?z_sorted ?z_set ?z_any ?z_enumerate ?z_ArithmeticError ?aC_e0 ?xL_e0 ?sa_e0 ?ga_e0 ?gg_e0 ?n0_e0 ?ov_e0 ?k0_e0 ?a1_e0 ?t1_e0 ?l1_e0 ?c1_e0 ?kC_e0 ?eC_e0 ?tC_e0 ?hC_e0 ?ca_e0 ?cn_e0 ?ct2_e0 ?cm_e0 ?aC_e1 ?xL_e1 ?sa_e1 ?ga_e1 ?gg_e1 ?n0_e1 ?ov_e1 ?k0_e1 ?a1_e1 ?t1_e1 ?l1_e1 ?c1_e1 ?kC_e1 ?eC_e1 ?tC_e1 ?hC_e1 ?ca_e1 ?cn_e1 ?ct2_e1 ?cm_e1 ?aC_e2 ?xL_e2 ?sa_e2 ?ga_e2 ?gg_e2 ?n0_e2 ?ov_e2 ?k0_e2 ?a1_e2 ?t1_e2 ?l1_e2 ?c1_e2 ?kC_e2 ?eC_e2 ?tC_e2 ?hC_e2 ?ca_e2 ?cn_e2 ?ct2_e2 ?cm_e2 ?aC_e3 ?xL_e3 ?sa_e3 ?ga_e3 ?gg_e3 ?n0_e3 ?ov_e3 ?k0_e3 ?a1_e3 ?t1_e3 ?l1_e3 ?c1_e3 ?kC_e3 ?eC_e3 ?tC_e3 ?hC_e3 ?ca_e3 ?cn_e3 ?ct2_e3 ?cm_e3 ?aD_RetryError ?uc_RetryError ?ut_RetryError ?y00 ?y01 ?y10 ?y11 ?y22 ?y23 ?y32 ?y33 ?ya2 ?ya3 ?yn23 ?yn32 ?c_tM ?c_tF ?c_tL
    (case aC => first | k_is | kx_is | decide)
    (case aC_e0 => first | k_is | kx_is | decide)
    (case aC_e1 => first | k_is | kx_is | decide)
    (case aC_e2 => first | k_is | kx_is | decide)
    (case aC_e3 => first | k_is | kx_is | decide)
    (case aD_RetryError => first | k_is | kx_is | decide)
    (case Aa1 => first | k_is | kx_is | decide)
    (case La1 => first | k_is | kx_is | decide)
    (case Ca1 => first | k_is | kx_is | decide)
    (case Ka1 => first | k_is | kx_is | decide)
    (case Aa2 => first | k_is | kx_is | decide)
    (case La2 => first | k_is | kx_is | decide)
    (case Ca2 => first | k_is | kx_is | decide)
    (case Ka2 => first | k_is | kx_is | decide)
    (case Aa3 => first | k_is | kx_is | decide)
    (case La3 => first | k_is | kx_is | decide)
    (case Ca3 => first | k_is | kx_is | decide)
    (case Ka3 => first | k_is | kx_is | decide)
    (case Aa4 => first | k_is | kx_is | decide)
    (case La4 => first | k_is | kx_is | decide)
    (case Ca4 => first | k_is | kx_is | decide)
    (case Ka4 => first | k_is | kx_is | decide)
    (case Aa5 => first | k_is | kx_is | decide)
    (case La5 => first | k_is | kx_is | decide)
    (case Ca5 => first | k_is | kx_is | decide)
    (case Ka5 => first | k_is | kx_is | decide)
    (case Ar6 => first | k_is | kx_is | decide)
    (case Ir6 => first | k_is | kx_is | decide)
    (case Lr6 => first | k_is | kx_is | decide)
    (case Cr6 => first | k_is | kx_is | decide)
    (case Kr6 => first | k_is | kx_is | decide)
    (case Ar8 => first | k_is | kx_is | decide)
    (case Ir8 => first | k_is | kx_is | decide)
    (case Lr8 => first | k_is | kx_is | decide)
    (case Cr8 => first | k_is | kx_is | decide)
    (case Kr8 => first | k_is | kx_is | decide)
    (case Ar9 => first | k_is | kx_is | decide)
    (case Ir9 => first | k_is | kx_is | decide)
    (case Lr9 => first | k_is | kx_is | decide)
    (case Cr9 => first | k_is | kx_is | decide)
    (case Kr9 => first | k_is | kx_is | decide)
    (case Ar10 => first | k_is | kx_is | decide)
    (case Ir10 => first | k_is | kx_is | decide)
    (case Lr10 => first | k_is | kx_is | decide)
    (case Cr10 => first | k_is | kx_is | decide)
    (case Kr10 => first | k_is | kx_is | decide)
    (case Ar11 => first | k_is | kx_is | decide)
    (case Ir11 => first | k_is | kx_is | decide)
    (case Lr11 => first | k_is | kx_is | decide)
    (case Cr11 => first | k_is | kx_is | decide)
    (case Kr11 => first | k_is | kx_is | decide)
    (case Ar12 => first | k_is | kx_is | decide)
    (case Ir12 => first | k_is | kx_is | decide)
    (case Lr12 => first | k_is | kx_is | decide)
    (case Cr12 => first | k_is | kx_is | decide)
    (case Kr12 => first | k_is | kx_is | decide)
    (case Ar13 => first | k_is | kx_is | decide)
    (case Ir13 => first | k_is | kx_is | decide)
    (case Lr13 => first | k_is | kx_is | decide)
    (case Cr13 => first | k_is | kx_is | decide)
    (case Kr13 => first | k_is | kx_is | decide)
    (case Ar14 => first | k_is | kx_is | decide)
    (case Ir14 => first | k_is | kx_is | decide)
    (case Lr14 => first | k_is | kx_is | decide)
    (case Cr14 => first | k_is | kx_is | decide)
    (case Kr14 => first | k_is | kx_is | decide)
    (case Aa16 => first | k_is | kx_is | decide)
    (case La16 => first | k_is | kx_is | decide)
    (case Ca16 => first | k_is | kx_is | decide)
    (case Ka16 => first | k_is | kx_is | decide)
    (case Aa17 => first | k_is | kx_is | decide)
    (case La17 => first | k_is | kx_is | decide)
    (case Ca17 => first | k_is | kx_is | decide)
    (case Ka17 => first | k_is | kx_is | decide)
    (case Aa18 => first | k_is | kx_is | decide)
    (case La18 => first | k_is | kx_is | decide)
    (case Ca18 => first | k_is | kx_is | decide)
    (case Ka18 => first | k_is | kx_is | decide)
    (case Aa19 => first | k_is | kx_is | decide)
    (case La19 => first | k_is | kx_is | decide)
    (case Ca19 => first | k_is | kx_is | decide)
    (case Ka19 => first | k_is | kx_is | decide)
    (case Aa20 => first | k_is | kx_is | decide)
    (case La20 => first | k_is | kx_is | decide)
    (case Ca20 => first | k_is | kx_is | decide)
    (case Ka20 => first | k_is | kx_is | decide)
    (case Aa21 => first | k_is | kx_is | decide)
    (case La21 => first | k_is | kx_is | decide)
    (case Ca21 => first | k_is | kx_is | decide)
    (case Ka21 => first | k_is | kx_is | decide)
    (case Aa22 => first | k_is | kx_is | decide)
    (case La22 => first | k_is | kx_is | decide)
    (case Ca22 => first | k_is | kx_is | decide)
    (case Ka22 => first | k_is | kx_is | decide)
    (case Aa23 => first | k_is | kx_is | decide)
    (case La23 => first | k_is | kx_is | decide)
    (case Ca23 => first | k_is | kx_is | decide)
    (case Ka23 => first | k_is | kx_is | decide)
    (case Ar24 => first | k_is | kx_is | decide)
    (case Ir24 => first | k_is | kx_is | decide)
    (case Lr24 => first | k_is | kx_is | decide)
    (case Cr24 => first | k_is | kx_is | decide)
    (case Kr24 => first | k_is | kx_is | decide)
    (case Ar25 => first | k_is | kx_is | decide)
    (case Ir25 => first | k_is | kx_is | decide)
    (case Lr25 => first | k_is | kx_is | decide)
    (case Cr25 => first | k_is | kx_is | decide)
    (case Kr25 => first | k_is | kx_is | decide)
    (case Ar26 => first | k_is | kx_is | decide)
    (case Ir26 => first | k_is | kx_is | decide)
    (case Lr26 => first | k_is | kx_is | decide)
    (case Cr26 => first | k_is | kx_is | decide)
    (case Kr26 => first | k_is | kx_is | decide)
    (case Ar27 => first | k_is | kx_is | decide)
    (case Ir27 => first | k_is | kx_is | decide)
    (case Lr27 => first | k_is | kx_is | decide)
    (case Cr27 => first | k_is | kx_is | decide)
    (case Kr27 => first | k_is | kx_is | decide)
    (case Ar28 => first | k_is | kx_is | decide)
    (case Ir28 => first | k_is | kx_is | decide)
    (case Lr28 => first | k_is | kx_is | decide)
    (case Cr28 => first | k_is | kx_is | decide)
    (case Kr28 => first | k_is | kx_is | decide)
    (case Aa29 => first | k_is | kx_is | decide)
    (case La29 => first | k_is | kx_is | decide)
    (case Ca29 => first | k_is | kx_is | decide)
    (case Ka29 => first | k_is | kx_is | decide)
    (case Aa30 => first | k_is | kx_is | decide)
    (case La30 => first | k_is | kx_is | decide)
    (case Ca30 => first | k_is | kx_is | decide)
    (case Ka30 => first | k_is | kx_is | decide)
    (case Aa31 => first | k_is | kx_is | decide)
    (case La31 => first | k_is | kx_is | decide)
    (case Ca31 => first | k_is | kx_is | decide)
    (case Ka31 => first | k_is | kx_is | decide)
    (case Aa32 => first | k_is | kx_is | decide)
    (case La32 => first | k_is | kx_is | decide)
    (case Ca32 => first | k_is | kx_is | decide)
    (case Ka32 => first | k_is | kx_is | decide)
    (case Aa33 => first | k_is | kx_is | decide)
    (case La33 => first | k_is | kx_is | decide)
    (case Ca33 => first | k_is | kx_is | decide)
    (case Ka33 => first | k_is | kx_is | decide)
    (case Aa34 => first | k_is | kx_is | decide)
    (case La34 => first | k_is | kx_is | decide)
    (case Ca34 => first | k_is | kx_is | decide)
    (case Ka34 => first | k_is | kx_is | decide)
    (case Aa35 => first | k_is | kx_is | decide)
    (case La35 => first | k_is | kx_is | decide)
    (case Ca35 => first | k_is | kx_is | decide)
    (case Ka35 => first | k_is | kx_is | decide)
    (case Aa36 => first | k_is | kx_is | decide)
    (case La36 => first | k_is | kx_is | decide)
    (case Ca36 => first | k_is | kx_is | decide)
    (case Ka36 => first | k_is | kx_is | decide)
    (case Aa37 => first | k_is | kx_is | decide)
    (case La37 => first | k_is | kx_is | decide)
    (case Ca37 => first | k_is | kx_is | decide)
    (case Ka37 => first | k_is | kx_is | decide)
    (case Aa38 => first | k_is | kx_is | decide)
    (case La38 => first | k_is | kx_is | decide)
    (case Ca38 => first | k_is | kx_is | decide)
    (case Ka38 => first | k_is | kx_is | decide)
    (case Aa39 => first | k_is | kx_is | decide)
    (case La39 => first | k_is | kx_is | decide)
    (case Ca39 => first | k_is | kx_is | decide)
    (case Ka39 => first | k_is | kx_is | decide)
    (case Aa40 => first | k_is | kx_is | decide)
    (case La40 => first | k_is | kx_is | decide)
    (case Ca40 => first | k_is | kx_is | decide)
    (case Ka40 => first | k_is | kx_is | decide)
    (case Aa41 => first | k_is | kx_is | decide)
    (case La41 => first | k_is | kx_is | decide)
    (case Ca41 => first | k_is | kx_is | decide)
    (case Ka41 => first | k_is | kx_is | decide)
    (case Aa42 => first | k_is | kx_is | decide)
    (case La42 => first | k_is | kx_is | decide)
    (case Ca42 => first | k_is | kx_is | decide)
    (case Ka42 => first | k_is | kx_is | decide)
    (case Aa43 => first | k_is | kx_is | decide)
    (case La43 => first | k_is | kx_is | decide)
    (case Ca43 => first | k_is | kx_is | decide)
    (case Ka43 => first | k_is | kx_is | decide)
    (case Aa44 => first | k_is | kx_is | decide)
    (case La44 => first | k_is | kx_is | decide)
    (case Ca44 => first | k_is | kx_is | decide)
    (case Ka44 => first | k_is | kx_is | decide)
    (case Aa45 => first | k_is | kx_is | decide)
    (case La45 => first | k_is | kx_is | decide)
    (case Ca45 => first | k_is | kx_is | decide)
    (case Ka45 => first | k_is | kx_is | decide)
    (case Aa46 => first | k_is | kx_is | decide)
    (case La46 => first | k_is | kx_is | decide)
    (case Ca46 => first | k_is | kx_is | decide)
    (case Ka46 => first | k_is | kx_is | decide)
    (case Aa47 => first | k_is | kx_is | decide)
    (case La47 => first | k_is | kx_is | decide)
    (case Ca47 => first | k_is | kx_is | decide)
    (case Ka47 => first | k_is | kx_is | decide)
    (case Aa48 => first | k_is | kx_is | decide)
    (case La48 => first | k_is | kx_is | decide)
    (case Ca48 => first | k_is | kx_is | decide)
    (case Ka48 => first | k_is | kx_is | decide)
    (case Aa49 => first | k_is | kx_is | decide)
    (case La49 => first | k_is | kx_is | decide)
    (case Ca49 => first | k_is | kx_is | decide)
    (case Ka49 => first | k_is | kx_is | decide)
    (case Aa50 => first | k_is | kx_is | decide)
    (case La50 => first | k_is | kx_is | decide)
    (case Ca50 => first | k_is | kx_is | decide)
    (case Ka50 => first | k_is | kx_is | decide)
    (case Aa51 => first | k_is | kx_is | decide)
    (case La51 => first | k_is | kx_is | decide)
    (case Ca51 => first | k_is | kx_is | decide)
    (case Ka51 => first | k_is | kx_is | decide)
    (case Aa52 => first | k_is | kx_is | decide)
    (case La52 => first | k_is | kx_is | decide)
    (case Ca52 => first | k_is | kx_is | decide)
    (case Ka52 => first | k_is | kx_is | decide)
    (case Aa0 => first | k_is | kx_is | decide)
    (case La0 => first | k_is | kx_is | decide)
    (case Ca0 => first | k_is | kx_is | decide)
    (case Ka0 => first | k_is | kx_is | decide)
    (case lca0 => first | k_is | kx_is | decide)
    (case lta0 => exact rfl)
    (case lha0 => kernel_rfl)
    (case lna0 => kernel_rfl)
    (case lma0 => decide)
    (case pg => first | k_is | kx_is | decide)
    (case hd => first | k_is | kx_is | decide)
    (case po => first | k_is | kx_is | decide)
    (case sa => first | k_is | kx_is | decide)
    (case mk => first | k_is | kx_is | decide)
    (case kc => first | k_is | kx_is | decide)
    (case n0 => first | k_is | kx_is | decide)
    (case n1 => first | k_is | kx_is | decide)
    (case n2 => first | k_is | kx_is | decide)
    (case z_len => k_is)
    (case z_isinstance => k_is)
    (case z_int => k_is)
    (case z_bool => k_is)
    (case z_list => k_is)
    (case z_tuple => k_is)
    (case z_str => k_is)
    (case z_all => k_is)
    (case z_range => k_is)
    (case z_divmod => k_is)
    (case z_sum => k_is)
    (case z_max => k_is)
    (case z_min => k_is)
    (case z_sorted => k_is)
    (case z_set => k_is)
    (case z_any => k_is)
    (case z_enumerate => k_is)
    (case z_ArithmeticError => k_is)
    (case xL_e0 => first | k_is | kx_is | decide)
    (case sa_e0 => first | k_is | kx_is | decide)
    (case ga_e0 => first | k_is | kx_is | decide)
    (case gg_e0 => first | k_is | kx_is | decide)
    (case n0_e0 => first | k_is | kx_is | decide)
    (case ov_e0 => first | k_is | kx_is | decide)
    (case k0_e0 => first | k_is | kx_is | decide)
    (case a1_e0 => first | k_is | kx_is | decide)
    (case t1_e0 => first | k_is | kx_is | decide)
    (case l1_e0 => first | k_is | kx_is | decide)
    (case c1_e0 => first | k_is | kx_is | decide)
    (case kC_e0 => first | k_is | kx_is | decide)
    (case eC_e0 => first | k_is | kx_is | decide)
    (case tC_e0 => first | k_is | kx_is | decide)
    (case hC_e0 => first | k_is | kx_is | decide)
    (case ca_e0 => first | k_is | kx_is | decide)
    (case cn_e0 => first | k_is | kx_is | decide)
    (case ct2_e0 => first | k_is | kx_is | decide)
    (case cm_e0 => first | k_is | kx_is | decide)
    (case xL_e1 => first | k_is | kx_is | decide)
    (case sa_e1 => first | k_is | kx_is | decide)
    (case ga_e1 => first | k_is | kx_is | decide)
    (case gg_e1 => first | k_is | kx_is | decide)
    (case n0_e1 => first | k_is | kx_is | decide)
    (case ov_e1 => first | k_is | kx_is | decide)
    (case k0_e1 => first | k_is | kx_is | decide)
    (case a1_e1 => first | k_is | kx_is | decide)
    (case t1_e1 => first | k_is | kx_is | decide)
    (case l1_e1 => first | k_is | kx_is | decide)
    (case c1_e1 => first | k_is | kx_is | decide)
    (case kC_e1 => first | k_is | kx_is | decide)
    (case eC_e1 => first | k_is | kx_is | decide)
    (case tC_e1 => first | k_is | kx_is | decide)
    (case hC_e1 => first | k_is | kx_is | decide)
    (case ca_e1 => first | k_is | kx_is | decide)
    (case cn_e1 => first | k_is | kx_is | decide)
    (case ct2_e1 => first | k_is | kx_is | decide)
    (case cm_e1 => first | k_is | kx_is | decide)
    (case xL_e2 => first | k_is | kx_is | decide)
    (case sa_e2 => first | k_is | kx_is | decide)
    (case ga_e2 => first | k_is | kx_is | decide)
    (case gg_e2 => first | k_is | kx_is | decide)
    (case n0_e2 => first | k_is | kx_is | decide)
    (case ov_e2 => first | k_is | kx_is | decide)
    (case k0_e2 => first | k_is | kx_is | decide)
    (case a1_e2 => first | k_is | kx_is | decide)
    (case t1_e2 => first | k_is | kx_is | decide)
    (case l1_e2 => first | k_is | kx_is | decide)
    (case c1_e2 => first | k_is | kx_is | decide)
    (case kC_e2 => first | k_is | kx_is | decide)
    (case eC_e2 => first | k_is | kx_is | decide)
    (case tC_e2 => first | k_is | kx_is | decide)
    (case hC_e2 => first | k_is | kx_is | decide)
    (case ca_e2 => first | k_is | kx_is | decide)
    (case cn_e2 => first | k_is | kx_is | decide)
    (case ct2_e2 => first | k_is | kx_is | decide)
    (case cm_e2 => first | k_is | kx_is | decide)
    (case xL_e3 => first | k_is | kx_is | decide)
    (case sa_e3 => first | k_is | kx_is | decide)
    (case ga_e3 => first | k_is | kx_is | decide)
    (case gg_e3 => first | k_is | kx_is | decide)
    (case n0_e3 => first | k_is | kx_is | decide)
    (case ov_e3 => first | k_is | kx_is | decide)
    (case k0_e3 => first | k_is | kx_is | decide)
    (case a1_e3 => first | k_is | kx_is | decide)
    (case t1_e3 => first | k_is | kx_is | decide)
    (case l1_e3 => first | k_is | kx_is | decide)
    (case c1_e3 => first | k_is | kx_is | decide)
    (case kC_e3 => first | k_is | kx_is | decide)
    (case eC_e3 => first | k_is | kx_is | decide)
    (case tC_e3 => first | k_is | kx_is | decide)
    (case hC_e3 => first | k_is | kx_is | decide)
    (case ca_e3 => first | k_is | kx_is | decide)
    (case cn_e3 => first | k_is | kx_is | decide)
    (case ct2_e3 => first | k_is | kx_is | decide)
    (case cm_e3 => first | k_is | kx_is | decide)
    (case uc_RetryError => first | k_is | kx_is | decide)
    (case ut_RetryError => first | k_is | kx_is | decide)
    (case y00 => first | k_is | kx_is | decide)
    (case y01 => first | k_is | kx_is | decide)
    (case y10 => first | k_is | kx_is | decide)
    (case y11 => first | k_is | kx_is | decide)
    (case y22 => first | k_is | kx_is | decide)
    (case y23 => first | k_is | kx_is | decide)
    (case y32 => first | k_is | kx_is | decide)
    (case y33 => first | k_is | kx_is | decide)
    (case ya2 => first | k_is | kx_is | decide)
    (case ya3 => first | k_is | kx_is | decide)
    (case yn23 => first | k_is | kx_is | decide)
    (case yn32 => first | k_is | kx_is | decide)
    (case c_tM => first | k_is | kx_is | decide)
    (case c_tF => first | k_is | kx_is | decide)
    (case c_tL => first | k_is | kx_is | decide)

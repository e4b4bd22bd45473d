import PyProof.Rows.All
import Wide.All
import OpenK.AllK
import Wide.FinOn
import HandS.ForMost
import HandS.Evl
import HandS.Wide
import HandS.WideBits
import HandS.IsInst
import KE.KEqDeep
import KE.KMinKey
import HandS.Codes
import HandS.OwnEq
import PyProof.InstNe
import HandS.MakeKwOnly
import HandS.SortKw
import HandS.Defaults
import HandS.Exc
import HandS.TryOnly
import HandS.TryMany
import HandS.ExcOwn
import HandS.WordsExc
import HandS.More
import HandS.Lambda
import KE.KExcIs
import HandS.HotCalls
import HandS.ExcInit
import KE.KExcInit
import HandS.Walk
import HandS.Flow
import HandS.Style
import HandS.Star
import HandS.Iter
import PyProof.ReprRoads
import HandS.EndTab
import KE.DataFind
import HandS.SetFor
import HandS.Strs
import HandS.SortInts
import HandS.Conv
import HandS.SetKeys
import KE.DataMinMax
import KE.SortData
import HandS.NoneIn
import HandS.DictComp
import PySem.Challenge.RW_retryslots_k62_lists_extended_by_least_g
set_option Elab.async false
set_option maxRecDepth 100000
set_option maxHeartbeats 2000000
namespace RS
open PySem L2
def top (i : Nat) : Stmt := PySem.Challenge.pw_retryslots_k62_lists_extended_by_least_g.main.body.getD i (.Pass ⟨0, 0, 0, 0⟩)
abbrev s_InvalidBound_ddinitdd : Stmt := inClass (top 3) 0
abbrev s_is_integer : Stmt := top 5
abbrev s_check_bound : Stmt := top 8
abbrev s_are_gaps : Stmt := top 9
abbrev s_sums : Stmt := top 11
abbrev s_is_spread_list : Stmt := top 15
abbrev s_next_gaps : Stmt := top 16
abbrev s_extended : Stmt := top 17
abbrev s_check_spread : Stmt := top 18
abbrev s_check_room : Stmt := top 19
abbrev s_differences : Stmt := top 20
abbrev s_ways_back : Stmt := top 21
abbrev s_fits : Stmt := top 22
abbrev s_least_gap : Stmt := top 23
abbrev s_law_source_of : Stmt := top 25
abbrev s_law_next : Stmt := top 26
abbrev s_law_one : Stmt := top 27
abbrev s_law_cell_at : Stmt := top 28
abbrev s_law_is_spread : Stmt := top 29
abbrev s_law_least : Stmt := top 30
abbrev s_law : Stmt := top 31
/-! ### what the walk asks of the text's top -/
structure Txt (K : PySem.W.Frag) (mg : Str → Option Value) (C : Addr) : Prop where
  len : mg "len" = none
  isi : mg "isinstance" = none
  int : mg "int" = none
  bool : mg "bool" = none
  list : mg "list" = none
  tuple : mg "tuple" = none
  str : mg "str" = none
  all : mg "all" = none
  range : mg "range" = none
  divmod : mg "divmod" = none
  sum : mg "sum" = none
  max : mg "max" = none
  min : mg "min" = none
  sorted : mg "sorted" = none
  set : mg "set" = none
  any : mg "any" = none
  enum : mg "enumerate" = none
  mLong : ∃ t, mg "_LONGEST_GAP" = some (.int 1000000000000 t)

/-! ### the data -/
/-- a rule's tail -/
inductive Tl where
  | fin
  | times (b : Int)
  | rep (n : Nat)
def Tl.vs : Tl → List V
  | .fin => [.str "end"]
  | .times b => [.str "times", .int b]
  | .rep n => [.str "repeat", .int (n : Int)]
def GapsOk (gs : List Int) : Prop := gs.length ≤ 20 ∧ ∀ g ∈ gs, 1 ≤ g ∧ g ≤ 1000000000000
def TlOk (many : Nat) : Tl → Prop
  | .fin => True
  | .times b => 0 < many ∧ 2 ≤ b ∧ b ≤ 1000
  | .rep n => 1 ≤ n ∧ n ≤ many
/-- the sum of the first k gaps -/
def pre (gs : List Int) (k : Nat) : Int := (gs.take k).sum
def offs (gs : List Int) : List Int := (List.range (gs.length + 1)).map (pre gs)
theorem offs_len (gs : List Int) : (offs gs).length = gs.length + 1 := by simp [offs]
theorem offs_get (gs : List Int) {k : Nat} (h : k ≤ gs.length) : (offs gs)[k]? = some (pre gs k) := by
  unfold offs
  rw [List.getElem?_map, List.getElem?_range (by omega)]
  rfl
theorem pre_zero (gs : List Int) : pre gs 0 = 0 := rfl
theorem pre_succ (gs : List Int) {k : Nat} {g : Int} (h : gs[k]? = some g) : pre gs (k + 1) = pre gs k + g := by
  unfold pre
  rw [List.take_add_one, h, List.sum_append]
  simp
theorem iteFb {b : Bool} {A B : Prop} (e : b = false) (h : B) : if b = true then A else B := by
  rw [e]
  exact iteF h
theorem iteTb {b : Bool} {A B : Prop} (e : b = true) (h : A) : if b = true then A else B := by
  rw [e]
  exact iteT h
theorem yes_t {Q : Bool → Hp → Prop} {σ : L2.St} {H : Hp} (h : Q true H) : tYes σ H Q := h
theorem at_map {xs : List Int} {j : Nat} {v : Int} (h : xs[j]? = some v) : atI (xs.map V.int) (j : Int) = some (.int v) := atI_nat (by rw [List.getElem?_map, h]; rfl)
theorem at_back {α : Type} {xs : List α} {j : Nat} {v : α} (h0 : 0 < j) (hj : j ≤ xs.length) (h : xs[xs.length - j]? = some v) : atI xs (-(j : Int)) = some v := by
  have e : ixN xs.length (-(j : Int)) = some (xs.length - j) := by
    unfold ixN
    rw [if_neg (by omega), if_pos (by omega)]
    congr 1
    omega
  unfold atI
  rw [e]
  exact h
theorem at_back1 {α : Type} {xs : List α} {v : α} (hj : 0 < xs.length) (h : xs[xs.length - 1]? = some v) : atI xs (-1) = some v := at_back (j := 1) (by omega) hj h

section
variable {P : Program} {w : World} {K : PySem.W.Frag} {mg : Str → Option Value} {base : Heap}
/-! ### is_integer -/
def spIsInt : Sp := fun vs H Q _ => ∃ i, vs = [.int i] ∧ Q (.bl true) H
theorem scIsInt : FnScope ["value"] ["value"] (defScope s_is_integer) := ⟨rfl, rfl, rfl, by decide +kernel, rfl, by decide +kernel, by decide +kernel⟩
theorem ok_isInt {f C : Addr} {fd : FuncData} (F : Fun K "is_integer" "is_integer" s_is_integer f fd) (T : Txt K mg C) : FnOk P w K mg base CX0 1 f fd ["value"] spIsInt := by
  refine F.ok scIsInt (fun vs H Q E h => ?_) (fun cdv A outer s H vs Q E hr h => ?_)
  · obtain ⟨i, rfl, _⟩ := h
    rfl
  · obtain ⟨i, rfl, k⟩ := h
    refine ⟨_, pss_one (ps_ret (pe_and (pe_callB call_isi (by rfl) T.isi (by decide +kernel) (pa_cons (pv 0) (pa_cons (pe_bltn (v := .ty "int") (by rfl) T.int (by decide +kernel) rfl) pa_nil))) (pe_one (pe_not (pe_callB call_isi (by rfl) T.isi (by decide +kernel) (pa_cons (pv 0) (pa_cons (pe_bltn (v := .ty "bool") (by rfl) T.bool (by decide +kernel) rfl) pa_nil))))))), ?_⟩
    refine ⟨_, rfl, _, _, _, _, _, rfl, .ty _, .base (.int i), kit_ty (r := true) (by decide +kernel), true, rfl, ?_⟩
    refine iteT ?_
    exact ⟨_, rfl, _, _, _, _, _, rfl, .ty _, .base (.int i), kit_ty (r := false) (by decide +kernel), false, rfl, k⟩

/-! ### _are_gaps -/
def spAreGaps : Sp := fun vs H Q _ => ∃ a gs, ∃ most : Nat, vs = [.ref a, .int (most : Int)] ∧ H a = some (.lst (gs.map V.int)) ∧ GapsOk gs ∧ gs.length ≤ most ∧ ∀ H', Same H H' → Q (.bl true) H'
theorem scAreGaps : FnScope ["value", "most", "gap"] ["value", "most"] (defScope s_are_gaps) := ⟨rfl, rfl, rfl, by decide +kernel, rfl, by decide +kernel, by decide +kernel⟩
theorem ok_areGaps {f C fi : Addr} {fd fdi : FuncData} (F : Fun K "are_gaps" "are_gaps" s_are_gaps f fd) (T : Txt K mg C) (FI : Fun K "is_integer" "is_integer" s_is_integer fi fdi) (bI : Binds K fdi ["value"] []) (mI : mg "is_integer" = some (.ref fi)) : FnOk P w K mg base CX0 2 f fd ["value", "most"] spAreGaps := by
  have GI : FnOk P w K mg base CX0 1 fi fdi ["value"] spIsInt := ok_isInt FI T
  obtain ⟨t2, m2⟩ := T.mLong
  refine F.ok scAreGaps (fun vs H Q E h => ?_) (fun cdv A outer s H vs Q E hr h => ?_)
  · obtain ⟨a, gs, most, rfl, _⟩ := h
    rfl
  · obtain ⟨a, gs, most, rfl, ha, ok, okm, k⟩ := h
    refine ⟨_, (pss_cons (ps_if (PW.pt (pw_or (pt_not (pt_val (pe_callB call_isi (by rfl) T.isi (by decide +kernel) (pa_cons (pv 0) (pa_cons (pe_bltn (v := .ty "list") (by rfl) T.list (by decide +kernel) rfl) pa_nil))))) (pw_or1 (pt_cmpR op_gt (pe_callB call_len_seq (by rfl) T.len (by decide +kernel) (pa_cons (pv 0) pa_nil)) (pv 1) (nomark _))))) (pss_one (ps_ret pe_bl)) pss_nil) (pss_one (ps_ret (pe_callB (cr_all rfl) (by rfl) T.all (by decide +kernel) (pa_cons (pe_lc (own := [("gap", 2)]) (g := gName 2) (tt := tYes) rfl scAreGaps.nd (pi_list (pv 0)) (blkOk_by (own := [("gap", 2)]) (N := ["value", "most", "gap"]) (sc := defScope s_are_gaps) (by decide +kernel))
          (fun _ _ _ _ _ => (pg_name (i := 2) scAreGaps.nd rfl (Or.inl rfl))) (fun _ _ _ _ _ => pts_nil)
          (fun _ _ _ _ _ => pe_and (pe_call GI hr rfl mI FI.kp bI .nil pass0 (pa_cons (pv 2) pa_nil)) (pe_one (pe_chain op_le op_le pe_int (pv 2) (pe_glob (v := .int 1000000000000) rfl m2 ⟨_, rfl⟩))))) pa_nil))))), ?_⟩
    refine ⟨_, rfl, _, _, _, _, _, rfl, .ty _, .base (.lst ha), kit_ty (r := true) (by decide +kernel), true, rfl, ?_⟩
    refine iteF ?_
    refine ⟨_, rfl, a, _, rfl, .inl (SqL.of ha), _, rfl, _, _, rfl, rfl, _, rfl, ?_⟩
    refine iteFb (decide_eq_false (by rw [List.length_map]; omega)) ?_
    refine ⟨_, rfl, a, rfl, ⟨_, SqL.of ha⟩, fun D hD => lc_list (a := a) (xs := gs.map V.int) (fun i H' => Same H H' ∧ H' D = some (.lst ((List.replicate i true).map V.bl))) ⟨?_, upd_same⟩ (fun i H' _ p => p.1.seq (SqL.of ha)) (fun i x H' hx p => ?_) (fun H' p => ?_)⟩
    · intro b o e
      rw [upd_ne (ne_of_none e hD)]
      exact e
    · obtain ⟨g, hg, rfl⟩ : ∃ g, gs[i]? = some g ∧ x = .int g := by
        rw [List.getElem?_map] at hx
        cases e : gs[i]? with
        | none => rw [e] at hx; cases hx
        | some g => rw [e] at hx; exact ⟨g, rfl, (Option.some.inj hx).symm⟩
      have hb := ok.2 g (List.mem_of_getElem? hg)
      have hi : i < gs.length := (List.getElem?_eq_some_iff.mp hg).1
      refine ⟨rfl, ?_⟩
      refine yes_t (iteT ?_)
      refine ⟨_, rfl, g, rfl, true, rfl, iteT ?_⟩
      refine ⟨_, rfl, _, _, rfl, rfl, _, rfl, iteTb (decide_eq_true hb.1) ?_⟩
      refine ⟨_, _, rfl, rfl, _, p.2, ?_, fun b o e => ?_, ?_⟩
      · rw [List.length_map, List.length_replicate]
        exact small1000 (by have := ok.1; omega)
      · rw [upd_ne (ne_of_none e hD)]
        exact p.1 b o e
      · rw [upd_same, List.replicate_succ', List.map_append]
        show some (HO.lst (List.map V.bl (List.replicate i true) ++ [V.bl (decide (g ≤ 1000000000000))])) = _
        rw [decide_eq_true hb.2]
        rfl
    · refine ⟨D, _, rfl, SqL.of p.2, ?_⟩
      have e : (List.replicate (gs.map V.int).length true).all id = true := by
        rw [List.all_eq_true]
        intro x hx
        rw [(List.mem_replicate.mp hx).2]
        rfl
      rw [e]
      exact k H' p.1

theorem same_new {H : Hp} {p : Addr} {o : HO} (h : H p = none) : Same H (upd H p o) := fun b u e => by
  rw [upd_ne (ne_of_none e h)]
  exact e
end
end RS
/-! ### comprehensions that only make values -/
namespace L2
open PySem PySem.Spec PyProof.Rows
/-- what the first i turns have made -/
def selTo (sel : Nat → Option V) (i : Nat) : List V := (List.range i).filterMap sel
theorem selTo_succ (sel : Nat → Option V) (i : Nat) : selTo sel (i + 1) = selTo sel i ++ (sel i).toList := by
  unfold selTo
  rw [List.range_succ, List.filterMap_append]
  cases h : sel i <;> simp [h]
theorem selTo_le (sel : Nat → Option V) (i : Nat) : (selTo sel i).length ≤ i := by
  unfold selTo
  have := List.length_filterMap_le sel (List.range i)
  rw [List.length_range] at this
  exact this
theorem selTo_get (ys : List V) : ∀ i, i ≤ ys.length → selTo (fun j : Nat => ys[j]?) i = ys.take i
  | 0, _ => rfl
  | i + 1, h => by
    rw [selTo_succ, selTo_get ys i (by omega), List.take_add_one]
theorem same_app {H1 H : Hp} {D : Addr} {o : HO} (hD : H1 D = none) (S : Same H1 H) : Same H1 (upd H D o) := fun b u e => by
  rw [upd_ne (ne_of_none e hD)]
  exact S b u e
theorem small_line {n : Nat} (h : n ≤ 100000) : n < sizeLine := Nat.lt_of_le_of_lt h (by decide +kernel)
/-- xs[i] in a block, K written -/
theorem pe_ixK {X : Cx} (K : PySem.W.Frag) (hK : X.K = K) {o i : Expr} {to ti : TE} {pos : Pos} (ho : PE X o to) (hi : PE X i ti) (hp : PlainIx i := by exact fun _ _ => rfl) : PE X (.Subscript o i pos) (tOp (rIxL K) to ti) := by
  subst hK
  exact pe_ix ix_list ho hi hp
theorem pe_ixTK {X : Cx} (K : PySem.W.Frag) (hK : X.K = K) {o i : Expr} {to ti : TE} {pos : Pos} (ho : PE X o to) (hi : PE X i ti) (hp : PlainIx i := by exact fun _ _ => rfl) : PE X (.Subscript o i pos) (tOp (rIxT K) to ti) := by
  subst hK
  exact pe_ix ix_tup ho hi hp
section
variable {X : Cx} {e tg : Expr} {te : TE} {p pos : Pos}
theorem pi_listK (K : PySem.W.Frag) (hK : X.K = K) (h : PE X e te) : PI X tg e (iList K te) := by
  subst hK
  exact pi_list h
theorem pi_tupK (K : PySem.W.Frag) (hK : X.K = K) (h : PE X e te) : PI X tg e (iTup K te) := by
  subst hK
  exact pi_tup h
theorem pe_allK (K : PySem.W.Frag) (hK : X.K = K) (hc : X.calm = true) (hg : Gl X "all") (hm : X.mg "all" = none) (ha : PE X e te) (hs : starEach [e] X.env = (false, eval e X.env) :: starEach [] X.env := by rfl) : PE X (.Call (.Name "all" p) [e] [] pos) (tCB (rAll K) (tCons te tNil)) := by
  subst hK
  exact pe_callB (cr_all hc) hg hm (by decide +kernel) (pa_cons ha pa_nil hs) (he := hs)
theorem pe_minK (K : PySem.W.Frag) (hK : X.K = K) (hc : X.calm = true) (hg : Gl X "min") (hm : X.mg "min" = none) (ha : PE X e te) (hs : starEach [e] X.env = (false, eval e X.env) :: starEach [] X.env := by rfl) : PE X (.Call (.Name "min" p) [e] [] pos) (tCB (rMin K) (tCons te tNil)) := by
  subst hK
  exact pe_callB (cr_min hc) hg hm (by decide +kernel) (pa_cons ha pa_nil hs) (he := hs)
end
section
variable {K : PySem.W.Frag} {a : Addr} {xs : List V} {g : TG} {tt : TT} {te : TE} {vs : List Nat} {σ : St} {H1 : Hp} {D : Addr} {Qd : Hp → Prop}
/-- over a list: turn i makes sel i, or nothing -/
theorem lc_sel (sel : Nat → Option V) (hx : SqL K H1 a xs) (hD : H1 D = none) (hn : xs.length ≤ 100000)
    (hs : ∀ (i : Nat) (x : V) (H : Hp) (Q : Option V → Hp → Prop), xs[i]? = some x → Same H1 H → (∀ H', Same H H' → Q (sel i) H') → g x (wipe σ vs) H fun σ2 H2 => wipe σ2 vs = wipe σ vs ∧ tt σ2 H2 fun b H3 =>
      if b = true then te σ2 H3 fun y H4 => Q (some y) H4 else Q none H3)
    (hd : ∀ H, Same H1 H → H D = some (.lst (selTo sel xs.length)) → Qd H) :
    ∃ W : Nat → Nat → Hp → Prop, (∃ m, W 0 m (upd H1 D (.lst []))) ∧ ∀ i m H, W i m H →
      ((Itl K a).stop i H ∧ Qd H) ∨ ((Itl K a).go i H ∧ ∃ Nx : Hp → Prop, (∀ H', Nx H' → ∃ m', m' < m ∧ W (i + 1) m' H') ∧ ∀ x H', (Itl K a).yld i H x H' → g x (wipe σ vs) H' fun σ2 H2 => wipe σ2 vs = wipe σ vs ∧ tt σ2 H2 fun b H3 =>
        if b = true then te σ2 H3 fun y H4 => ∃ acc, H4 D = some (.lst acc) ∧ acc.length < sizeLine ∧ Nx (upd H4 D (.lst (acc ++ [y]))) else Nx H3) := by
  refine lc_list (a := a) (xs := xs) (fun i H => i ≤ xs.length ∧ Same H1 H ∧ H D = some (.lst (selTo sel i))) ⟨Nat.zero_le _, same_app hD (fun _ _ e => e), upd_same⟩ (fun i H _ p => p.2.1.seq hx) (fun i x H hi p => ?_) (fun H p => hd H p.2.1 p.2.2)
  have hlt : i < xs.length := (List.getElem?_eq_some_iff.mp hi).1
  refine hs i x H (fun o H' => match o with | some y => ∃ acc, H' D = some (.lst acc) ∧ acc.length < sizeLine ∧ (i + 1 ≤ xs.length ∧ Same H1 (upd H' D (.lst (acc ++ [y]))) ∧ upd H' D (.lst (acc ++ [y])) D = some (.lst (selTo sel (i + 1)))) | none => i + 1 ≤ xs.length ∧ Same H1 H' ∧ H' D = some (.lst (selTo sel (i + 1)))) hi p.2.1 (fun H' S => ?_)
  have hl := selTo_le sel i
  rw [selTo_succ]
  cases sel i with
  | none => exact ⟨hlt, p.2.1.trans S, by simpa using S _ _ p.2.2⟩
  | some y => exact ⟨_, S _ _ p.2.2, small_line (by omega), hlt, same_app hD (p.2.1.trans S), upd_same⟩
/-- over a range -/
theorem lc_selR {lo : Int} {n : Nat} (sel : Nat → Option V) (hD : H1 D = none) (hn : n ≤ 100000)
    (hs : ∀ (i : Nat) (H : Hp) (Q : Option V → Hp → Prop), i < n → Same H1 H → (∀ H', Same H H' → Q (sel i) H') → g (.int (lo + i)) (wipe σ vs) H fun σ2 H2 => wipe σ2 vs = wipe σ vs ∧ tt σ2 H2 fun b H3 =>
      if b = true then te σ2 H3 fun y H4 => Q (some y) H4 else Q none H3)
    (hd : ∀ H, Same H1 H → H D = some (.lst (selTo sel n)) → Qd H) :
    ∃ W : Nat → Nat → Hp → Prop, (∃ m, W 0 m (upd H1 D (.lst []))) ∧ ∀ i m H, W i m H →
      ((Itr lo n).stop i H ∧ Qd H) ∨ ((Itr lo n).go i H ∧ ∃ Nx : Hp → Prop, (∀ H', Nx H' → ∃ m', m' < m ∧ W (i + 1) m' H') ∧ ∀ x H', (Itr lo n).yld i H x H' → g x (wipe σ vs) H' fun σ2 H2 => wipe σ2 vs = wipe σ vs ∧ tt σ2 H2 fun b H3 =>
        if b = true then te σ2 H3 fun y H4 => ∃ acc, H4 D = some (.lst acc) ∧ acc.length < sizeLine ∧ Nx (upd H4 D (.lst (acc ++ [y]))) else Nx H3) := by
  refine lc_range (fun i H => i ≤ n ∧ Same H1 H ∧ H D = some (.lst (selTo sel i))) ⟨Nat.zero_le _, same_app hD (fun _ _ e => e), upd_same⟩ (fun i H hlt p => ?_) (fun H p => hd H p.2.1 p.2.2)
  refine hs i H (fun o H' => match o with | some y => ∃ acc, H' D = some (.lst acc) ∧ acc.length < sizeLine ∧ (i + 1 ≤ n ∧ Same H1 (upd H' D (.lst (acc ++ [y]))) ∧ upd H' D (.lst (acc ++ [y])) D = some (.lst (selTo sel (i + 1)))) | none => i + 1 ≤ n ∧ Same H1 H' ∧ H' D = some (.lst (selTo sel (i + 1)))) hlt p.2.1 (fun H' S => ?_)
  have hl := selTo_le sel i
  rw [selTo_succ]
  cases sel i with
  | none => exact ⟨hlt, p.2.1.trans S, by simpa using S _ _ p.2.2⟩
  | some y => exact ⟨_, S _ _ p.2.2, small_line (by omega), hlt, same_app hD (p.2.1.trans S), upd_same⟩
theorem yes_ite {te : TE} {F : V → Hp → Prop} {N : Hp → Prop} {σ : St} {H : Hp} : (tYes σ H fun b H3 => if b = true then te σ H3 F else N H3) = te σ H F := by simp [tYes]
/-- over a list, without a test: the values ys -/
theorem lc_map (ys : List V) (hx : SqL K H1 a xs) (hD : H1 D = none) (hl : ys.length = xs.length) (hn : xs.length ≤ 100000)
    (hs : ∀ (i : Nat) (x y : V) (H : Hp) (Q : V → Hp → Prop), xs[i]? = some x → ys[i]? = some y → Same H1 H → (∀ H', Same H H' → Q y H') → g x (wipe σ vs) H fun σ2 H2 => wipe σ2 vs = wipe σ vs ∧ te σ2 H2 Q)
    (hd : ∀ H, Same H1 H → H D = some (.lst ys) → Qd H) :
    ∃ W : Nat → Nat → Hp → Prop, (∃ m, W 0 m (upd H1 D (.lst []))) ∧ ∀ i m H, W i m H →
      ((Itl K a).stop i H ∧ Qd H) ∨ ((Itl K a).go i H ∧ ∃ Nx : Hp → Prop, (∀ H', Nx H' → ∃ m', m' < m ∧ W (i + 1) m' H') ∧ ∀ x H', (Itl K a).yld i H x H' → g x (wipe σ vs) H' fun σ2 H2 => wipe σ2 vs = wipe σ vs ∧ tYes σ2 H2 fun b H3 =>
        if b = true then te σ2 H3 fun y H4 => ∃ acc, H4 D = some (.lst acc) ∧ acc.length < sizeLine ∧ Nx (upd H4 D (.lst (acc ++ [y]))) else Nx H3) := by
  refine lc_sel (fun j : Nat => ys[j]?) hx hD hn (fun i x H Q hi S q => ?_) (fun H S h => hd H S (by rw [← hl, selTo_get ys _ (Nat.le_refl _), List.take_length] at h; exact h))
  have hlt : i < xs.length := (List.getElem?_eq_some_iff.mp hi).1
  have hy : ys[i]? = some ys[i] := List.getElem?_eq_getElem (by omega)
  simp only [yes_ite]
  exact hs i x _ H (fun y H' => Q (some y) H') hi hy S fun H' S' => hy ▸ q H' S'
theorem lc_mapR {lo : Int} {n : Nat} (ys : List V) (hD : H1 D = none) (hl : ys.length = n) (hn : n ≤ 100000)
    (hs : ∀ (i : Nat) (y : V) (H : Hp) (Q : V → Hp → Prop), i < n → ys[i]? = some y → Same H1 H → (∀ H', Same H H' → Q y H') → g (.int (lo + i)) (wipe σ vs) H fun σ2 H2 => wipe σ2 vs = wipe σ vs ∧ te σ2 H2 Q)
    (hd : ∀ H, Same H1 H → H D = some (.lst ys) → Qd H) :
    ∃ W : Nat → Nat → Hp → Prop, (∃ m, W 0 m (upd H1 D (.lst []))) ∧ ∀ i m H, W i m H →
      ((Itr lo n).stop i H ∧ Qd H) ∨ ((Itr lo n).go i H ∧ ∃ Nx : Hp → Prop, (∀ H', Nx H' → ∃ m', m' < m ∧ W (i + 1) m' H') ∧ ∀ x H', (Itr lo n).yld i H x H' → g x (wipe σ vs) H' fun σ2 H2 => wipe σ2 vs = wipe σ vs ∧ tYes σ2 H2 fun b H3 =>
        if b = true then te σ2 H3 fun y H4 => ∃ acc, H4 D = some (.lst acc) ∧ acc.length < sizeLine ∧ Nx (upd H4 D (.lst (acc ++ [y]))) else Nx H3) := by
  refine lc_selR (fun j : Nat => ys[j]?) hD hn (fun i H Q hlt S q => ?_) (fun H S h => hd H S (by rw [← hl, selTo_get ys _ (Nat.le_refl _), List.take_length] at h; exact h))
  have hy : ys[i]? = some ys[i] := List.getElem?_eq_getElem (by omega)
  simp only [yes_ite]
  exact hs i _ H (fun y H' => Q (some y) H') hlt hy S fun H' S' => hy ▸ q H' S'
end
end L2
/-! ### set(xs) of a list of ints -/
namespace L2
open PySem PySem.Spec PyProof.Rows
def eset (w : World) : Obj := { cls := .type "set", dict := none, data := .set #[] 0 (.fresh 0 0 (!w.params.followText "set-order")) }
section
variable {P : Program} {w : World} {A : Around} {E : Value → Shared → Prop} {s : Shared}
set_option maxHeartbeats 4000000 in
theorem set_from {l : Addr} {its : Array Value} (zs : List Int) {Q : Value → Shared → Prop} (calm : A.handled = none) (isl : s.heap.IsList l its) (hz : IntsAre its.toList zs) (few : zs.length + 1 < scanBound)
    (fin : ∀ (g : Heap) (tt n : Nat), SetR w g s.heap.objs.size (fun j => decide (j ∈ zs)) n → n ≤ zs.length → (∀ b o, s.heap.get? b = some o → g.get? b = some o) → Q (.ref s.heap.objs.size) { s with heap := g, toks := tt }) :
    wpAny (model P w) A (call (.type "set") [.ref l]) Q E s := by
  have many : its.size = zs.length := by simpa using IntsAre.length hz
  have k1 := F.called_set
  obtain ⟨cc, tll, mroS⟩ := k1.mro
  have m1 := k1.made; have m2 := k1.sub; have m3 := k1.notType; have m4 := k1.canCreate; have m5 := F.typeCall_set_1 (.ref l)
  refine wpAny_call (codeAny_of_tree (show wpAny _ _ (callAny (.type "set") _) _ _ _ from wpAny_pure ⟨Code.quiet_builtin _ (by decide +kernel), codeAny_builtin F.entry_type_call ?_⟩))
  rw [Around.under_plain (weight_type_call_type "set" [.ref l] []) rfl]
  repeat (any_goals (first | assumption | wp_step))
  refine codeAny_mono (code_set_led1 (.ref l) (E := E) (Q₁ := fun ob t => ob = .ref s.heap.objs.size ∧ t = { s with heap := s.heap.push (eset w) }) ⟨rfl, rfl⟩) fun out t1 told => ?_
  match out, told with
  | .error _, told => exact told
  | .ok .next, told => exact told.elim
  | .ok .brk, told => exact told.elim
  | .ok .cont, told => exact told.elim
  | .ok (.ret ob), ⟨eo, et⟩ =>
    subst eo et
    have atS : (s.heap.push (eset w)).get? s.heap.objs.size = some (eset w) := Heap.get?_push_size _ rfl
    have tyS : Shared.TypeIs { s with heap := s.heap.push (eset w) } (.ref s.heap.objs.size) "set" := ⟨_, atS, rfl⟩
    have n1 := k1.init.lookup; have n2 := k1.init.bind (.ref s.heap.objs.size)
    repeat (any_goals (first | assumption | wp_step))
    refine codeAny_mono (codeAny_call_builtin (R := wants (fun r t => r = .none ∧ ∃ g tt n, t = { s with heap := g, toks := tt } ∧ SetR w g s.heap.objs.size (fun j => decide (j ∈ zs)) n ∧ n ≤ zs.length ∧ ∀ b o, s.heap.get? b = some o → g.get? b = some o) E) k1.init.plain F.entry_set_init (check_set_init_1 tyS ?_)) fun out t2 told => ?_
    · obtain ⟨⟨oc, od, odt, osl⟩, atL, cl, nn, dt⟩ := isl
      simp only at cl dt
      subst cl dt
      have atL1 : (s.heap.push (eset w)).get? l = some { cls := .type "list", dict := od, data := .seq its nn, slots := osl } := Heap.get?_push_of_some _ atL
      have q1 := F.sub_list_set; have q2 := F.sub_list_frozenset
      have q3 : (Value.type "list" == Value.type "dict") = false := by decide
      have isl1 : (s.heap.push (eset w)).IsList l its := ⟨_, atL1, rfl, nn, rfl⟩
      unfold Builtin.«set.__init__» noKeywords Builtin.Frozenset.updateFrom
      generalize eP : pyIter = PP
      wp_walk
      subst eP
      refine wpAny_pyIter_list isl1 (wpAny_bind (wpAny_runValue ?_))
      have lo : l < s.heap.objs.size := Heap.lt_size atL
      have sz : (s.heap.push (eset w)).objs.size = s.heap.objs.size + 1 := Heap.size_push ..
      have calm3 : A.in1.in1.in1.handled = none := by simp [calm]
      have d1 : l ≠ (s.heap.push (eset w)).objs.size := by rw [sz]; exact Nat.ne_of_lt (Nat.lt_succ_of_lt lo)
      have d2 : s.heap.objs.size ∉ [(s.heap.push (eset w)).objs.size, l] := by
        rw [sz]
        simp only [List.mem_cons, List.not_mem_nil, or_false, not_or]
        exact ⟨Nat.ne_of_lt (Nat.lt_succ_self _), (Nat.ne_of_lt lo).symm⟩
      have vals : ∀ (i : Nat) (v : Value), its[i]? = some v → ∃ k t, zs[i]? = some k ∧ v = .int k t := fun i v hv => by
        have lt : i < zs.length := many ▸ (Array.getElem?_eq_some_iff.mp hv).1
        obtain ⟨t, ev⟩ := IntsAre.int_at hz i v (by simpa using hv)
        exact ⟨zs[i], t, List.getElem?_eq_getElem lt, by rw [ev, List.getD_eq_getElem?_getD, List.getElem?_eq_getElem lt] <;> rfl⟩
      refine set_update_ints ((Walks.list calm3 _ l d1 its).toS) s.heap.objs.size d2 zs many few vals (its.size - 0) 0 _ (by omega) (Nat.zero_le _) ⟨⟨_, Heap.get?_push_size _ rfl, rfl, rfl⟩, isl1.push _⟩ ⟨0, Nat.le_refl 0, setR_new_at (Heap.get?_push_of_some _ atS)⟩ fun t n mv hn R => ?_
      obtain ⟨g, gn, dr, tt, os⟩ := t
      obtain rfl : gn = s.gens := mv.gens
      obtain rfl : dr = s.drawn := mv.drawn
      obtain rfl : os = s.os := mv.os
      show wpAny _ _ _ _ _ _
      refine wpAny_pure (show wpAny _ _ (ret Value.none) _ _ _ from wpAny_pure ⟨rfl, g, tt, n, rfl, R, many ▸ hn, fun b o e => ?_⟩)
      have hb := Heap.lt_size e
      refine mv.heap b o ?_ (Heap.get?_push_of_some _ (Heap.get?_push_of_some _ e))
      simp only [List.mem_cons, List.not_mem_nil, or_false, not_or]
      rw [sz]
      exact ⟨Nat.ne_of_lt hb, Nat.ne_of_lt (Nat.lt_succ_of_lt hb)⟩
    · match out, told with
      | .error _, told => exact told
      | .ok .next, told => exact told.elim
      | .ok .brk, told => exact told.elim
      | .ok .cont, told => exact told.elim
      | .ok (.ret _), ⟨e1, g, tt, n, e2, R, hn, kp⟩ =>
        subst e1 e2
        repeat (any_goals (first | assumption | wp_step))
        exact fin _ _ _ R hn kp
end
section
variable {X : Cx}
def rSetOfL (K : PySem.W.Frag) (w : World) : List V → Hp → VK → Prop := fun xs H Q => ∃ (l : Addr) (ns : List Int), xs = [.ref l] ∧ SqL K H l (ns.map V.int) ∧ ns.length ≤ 4000 ∧ ∀ p n, H p = none → n ≤ ns.length → Q (.ref p) (upd H p (SetO w p (fun j => decide (j ∈ ns)) n))
theorem cr_setL (hc : X.calm = true) : CallR X (.type "set") (rSetOfL X.K X.w) := by
  intro pins s σ H xs us Q I r h
  obtain ⟨l, ns, rfl, hs, hn, q⟩ := h
  obtain ⟨its, rv, hl, _⟩ := I.list hs
  rw [Vals.ref1 r]
  refine set_from ns (I.ok.hd hc) hl.isList (by simpa using rv.ints) (by unfold scanBound; omega) fun g tt n R hle kp => ?_
  exact ⟨.ref _, upd H s.heap.objs.size (SetO X.w s.heap.objs.size (fun j => decide (j ∈ ns)) n), I.laid (t' := tt) kp (Nat.le_refl _) (setO_new R), rfl, q _ _ (I.hok.fresh (Nat.le_refl _)) hle⟩
end
end L2
namespace RS
open PySem L2
theorem map_of {xs : List Int} {i : Nat} {x : V} (hx : (xs.map V.int)[i]? = some x) : ∃ g, xs[i]? = some g ∧ x = .int g := by
  rw [List.getElem?_map] at hx
  cases e : xs[i]? with
  | none => rw [e] at hx; cases hx
  | some g => rw [e] at hx; exact ⟨g, rfl, (Option.some.inj hx).symm⟩

section
variable {P : Program} {w : World} {K : PySem.W.Frag} {mg : Str → Option Value} {base : Heap}
/-! ### _sums -/
def spSums : Sp := fun vs H Q _ => ∃ a gs, vs = [.ref a] ∧ H a = some (.lst (gs.map V.int)) ∧ gs.length ≤ 100 ∧ ∀ p H', H p = none → Same H H' → H' p = some (.lst ((offs gs).map V.int)) → Q (.ref p) H'
theorem scSums : FnScope ["gaps", "offsets", "gap"] ["gaps"] (defScope s_sums) := ⟨rfl, rfl, rfl, by decide +kernel, rfl, by decide +kernel, by decide +kernel⟩
theorem ok_sums {f : Addr} {fd : FuncData} (F : Fun K "sums" "sums" s_sums f fd) : FnOk P w K mg base CX0 1 f fd ["gaps"] spSums := by
  refine F.ok scSums (fun vs H Q E h => ?_) (fun cdv A outer s H vs Q E hr h => ?_)
  · obtain ⟨a, gs, rfl, _⟩ := h
    rfl
  · obtain ⟨a, gs, rfl, ha, hn, k⟩ := h
    refine ⟨_, (pss_cons (ps_set (i := 1) scSums.nd rfl (Or.inl rfl) (pe_lst (pa_cons pe_int pa_nil))) (pss_cons (ps_for PassesOwn.never rfl (pi_list (pv 0)) (pg_name (i := 2) scSums.nd rfl (Or.inl rfl)) (pss_one (ps_expr (pe_bm PySem.F.plainAttrs_list PySem.F.slot_list_append PySem.F.type_list_append mt_append (pv 1) (pa_cons (pe_op op_add (pe_ix ix_list (pv 1) (pe_un un_neg pe_int) (fun _ _ => rfl)) (pv 2)) pa_nil))))) (pss_one (ps_ret (pv 1))))), ?_⟩
    refine ⟨by show 1 ≤ sizeLine; decide, fun l hl => ?_⟩
    have S0 : Same H (upd H l (.lst [.int 0])) := same_new hl
    refine ⟨_, rfl, a, rfl, ⟨_, SqL.of (S0 _ _ ha)⟩, for_list (a := a) (xs := gs.map V.int) (fun i σ H' => ∃ v, σ = [some (.ref a), some (.ref l), v] ∧ Same H H' ∧ H' l = some (.lst (((List.range (i + 1)).map (pre gs)).map V.int))) ⟨none, rfl, S0, upd_same⟩ (fun i σ H' _ ⟨v, _, S, _⟩ => SqL.of (S _ _ ha)) ?_ ?_⟩
    · rintro i x σ H' hx ⟨v, rfl, S, hl'⟩
      obtain ⟨g, hg, rfl⟩ := map_of hx
      have hi : i < gs.length := (List.getElem?_eq_some_iff.mp hg).1
      have hz : (((List.range (i + 1)).map (pre gs)).map V.int).length = i + 1 := by simp
      refine ⟨_, rfl, .inl ⟨rfl, _, SqL.of hl'⟩, _, rfl, _, rfl, l, _, _, _, rfl, rfl, SqL.of hl', at_back1 (v := .int (pre gs i)) (by rw [hz]; omega) ?_, _, rfl, _, _, rfl, rfl, l, _, _, rfl, rfl, hl', by rw [hz]; exact small1000 (by omega), ?_⟩
      · rw [hz, List.getElem?_map, List.getElem?_map, List.getElem?_range (by omega)]
        rfl
      · refine ⟨_, rfl, fun b o e => ?_, ?_⟩
        · rw [upd_ne (ne_of_none e hl)]
          exact S b o e
        · rw [upd_same, List.range_succ (n := i + 1), List.map_append, List.map_append]
          show _ = some (HO.lst (_ ++ [V.int (pre gs (i + 1))]))
          rw [pre_succ gs hg]
    · rintro σ H' ⟨v, rfl, S, hl'⟩
      rw [List.length_map] at hl'
      exact ⟨_, rfl, k l H' hl S hl'⟩

end
end RS
namespace RS
open PySem L2
/-! ### the law's own source of numbers -/
/-- all but what stands at a is as it was -/
def Kx (a : Addr) (H H' : Hp) : Prop := ∀ c u, c ≠ a → H c = some u → H' c = some u
theorem Kx.refl (a : Addr) (H : Hp) : Kx a H H := fun _ _ _ h => h
theorem Kx.trans {a : Addr} {H H1 H2 : Hp} (x : Kx a H H1) (y : Kx a H1 H2) : Kx a H H2 := fun c u n h => y c u n (x c u n h)
theorem Kx.of {a : Addr} {H H' : Hp} (x : Same H H') : Kx a H H' := fun c u _ h => x c u h
theorem Kx.upd {a : Addr} {H : Hp} {o : HO} : Kx a H (upd H a o) := fun c u n h => by
  rw [upd_ne n]
  exact h
theorem Kx.free {a : Addr} {H H' : Hp} (x : Kx a H H') {p : Addr} (n : p ≠ a) (h : H' p = none) : H p = none := by
  cases q : H p with
  | none => rfl
  | some o =>
    rw [x p o n q] at h
    cases h
structure Src (H : Hp) (a : Addr) (b : Nat) : Prop where
  ex : ∃ s0 s1 s2 : Int, H a = some (.lst [.int s0, .int s1, .int s2]) ∧ 0 ≤ s0 ∧ 0 ≤ s1 ∧ s1 < 2147483647 ∧ 0 ≤ s2 ∧ s2 ≤ b
theorem Src.mono {H H' : Hp} {a : Addr} {b : Nat} (h : Src H a b) (e : Same H H') : Src H' a b := by
  obtain ⟨s0, s1, s2, h1, h2⟩ := h.ex
  exact ⟨s0, s1, s2, e _ _ h1, h2⟩
theorem Src.le {H : Hp} {a : Addr} {b c : Nat} (h : Src H a b) (e : b ≤ c) : Src H a c := by
  obtain ⟨s0, s1, s2, h1, h2, h3, h4, h5, h6⟩ := h.ex
  exact ⟨s0, s1, s2, h1, h2, h3, h4, h5, by omega⟩
theorem Src.new {H : Hp} {a : Addr} {b : Nat} (h : Src H a b) {p : Addr} (hp : H p = none) : a ≠ p := by
  obtain ⟨s0, s1, s2, h1, _⟩ := h.ex
  exact ne_of_none h1 hp
section
variable {P : Program} {w : World} {K : PySem.W.Frag} {mg : Str → Option Value} {base : Heap}
def spSrcOf : Sp := fun vs H Q _ => ∃ c : Int, vs = [.int c] ∧ ∀ a H', H a = none → Same H H' → Src H' a 0 → Q (.ref a) H'
theorem scSrcOf : FnScope ["_law_cell"] ["_law_cell"] (defScope s_law_source_of) := ⟨rfl, rfl, rfl, by decide +kernel, rfl, by decide +kernel, by decide +kernel⟩
theorem ok_srcOf {f C : Addr} {fd : FuncData} (F : Fun K "_law_source_of" "_law_source_of" s_law_source_of f fd) (T : Txt K mg C) : FnOk P w K mg base CX0 1 f fd ["_law_cell"] spSrcOf := by
  refine F.ok scSrcOf (fun vs H Q E h => ?_) (fun cdv A outer s H vs Q E hr h => ?_)
  · obtain ⟨c, rfl, _⟩ := h
    rfl
  · obtain ⟨c, rfl, k⟩ := h
    refine ⟨_, (pss_one (ps_ret (pe_lst (pa_cons (pe_op op_mul (pv 0) (pe_callTy call_int1 (by rfl) T.int (by decide +kernel) (pa_cons (pe_cmpR op_ge (pv 0) (pe_op op_pow pe_int pe_int) (nomark _)) pa_nil))) (pa_cons (pe_op op_mod (pe_callTy call_int1 (by rfl) T.int (by decide +kernel) (pa_cons (pv 0) pa_nil)) pe_int) (pa_cons pe_int pa_nil)))))), ?_⟩
    refine ⟨_, rfl, _, rfl, _, _, rfl, rfl, ⟨by decide, by decide, by decide⟩, _, _, rfl, rfl, .inr ⟨_, rfl, ?_⟩⟩
    refine ⟨_, _, rfl, rfl, .inr ?_, _, rfl, .inl ⟨_, rfl, _, _, rfl, rfl, (by show (0 : Int) < 2147483647; decide), (by show 3 ≤ sizeLine; decide), fun a ha => ?_⟩⟩
    · by_cases hc : (10 : Int) ^ (18 : Int).toNat ≤ c
      · rw [decide_eq_true hc]; decide
      · rw [decide_eq_false hc]; decide
    · refine k a _ ha (same_new ha) ⟨_, _, _, upd_same, ?_, Int.emod_nonneg _ (by decide), Int.emod_lt_of_pos _ (by decide), by decide, by decide⟩
      by_cases hc : (10 : Int) ^ (18 : Int).toNat ≤ c
      · have e : (10 : Int) ^ (18 : Int).toNat = 1000000000000000000 := by decide
        rw [decide_eq_true hc]
        show 0 ≤ c * 1
        omega
      · rw [decide_eq_false hc]
        show 0 ≤ c * 0
        omega
def spNext : Sp := fun vs H Q _ => ∃ (a : Addr) (m : Int) (b : Nat), vs = [.ref a, .int m] ∧ Src H a b ∧ b ≤ 100000 ∧ 1 ≤ m ∧ m < 2 ^ 200 ∧ ∀ r H', 0 ≤ r → r < m → Kx a H H' → Src H' a (b + 1) → Q (.int r) H'
theorem scNext : FnScope ["_law_source", "_law_many", "_law_found", "_law_prime", "_law_figure"] ["_law_source", "_law_many"] (defScope s_law_next) := ⟨rfl, rfl, rfl, by decide +kernel, rfl, by decide +kernel, by decide +kernel⟩
theorem prime_at {s : Int} (h : 0 ≤ s) : ∃ pr : Int, atI [V.int 2147483647, V.int 2147483629, V.int 2147483587, V.int 2147483579, V.int 2147483563, V.int 2147483549, V.int 2147483543] (s % 7) = some (.int pr) ∧ 1 ≤ pr ∧ pr ≤ 2147483647 := by
  have h1 : s % 7 = 0 ∨ s % 7 = 1 ∨ s % 7 = 2 ∨ s % 7 = 3 ∨ s % 7 = 4 ∨ s % 7 = 5 ∨ s % 7 = 6 := by omega
  rcases h1 with h1 | h1 | h1 | h1 | h1 | h1 | h1 <;> rw [h1] <;> exact ⟨_, rfl, by decide, by decide⟩
theorem ok_next {f C : Addr} {fd : FuncData} (F : Fun K "_law_next" "_law_next" s_law_next f fd) (T : Txt K mg C) : FnOk P w K mg base CX0 1 f fd ["_law_source", "_law_many"] spNext := by
  refine F.ok scNext (fun vs H Q E h => ?_) (fun cdv A outer s H vs Q E hr h => ?_)
  · obtain ⟨a, m, b, rfl, _⟩ := h
    rfl
  · obtain ⟨a, m, b, rfl, S, hb, hm1, hm2, k⟩ := h
    obtain ⟨s0, s1, s2, ha, h0, h1, h1', h2, h2'⟩ := S.ex
    refine ⟨_, (pss_cons (ps_if (pt_cmpR op_gt (pe_ix ix_list (pv 0) pe_int (fun _ _ => rfl)) pe_int (nomark _)) (pss_cons (ps_set (i := 2) scNext.nd rfl (Or.inl rfl) (pe_op op_mod (pe_callTy call_int1 (by rfl) T.int (by decide +kernel) (pa_cons (pe_ix ix_list (pv 0) pe_int (fun _ _ => rfl)) pa_nil)) (pv 1))) (pss_cons (ps_asg (pe_op op_fdivW (pe_ix ix_list (pv 0) pe_int (fun _ _ => rfl)) (pv 1)) (pg_sub (pv 0) pe_int set_list)) (pss_one (ps_ret (pv 2))))) pss_nil) (pss_cons (ps_asg (pe_op op_add (pe_ix ix_list (pv 0) pe_int (fun _ _ => rfl)) pe_int) (pg_sub (pv 0) pe_int set_list)) (pss_cons (ps_set (i := 3) scNext.nd rfl (Or.inl rfl) (pe_ix ix_list (pe_lst (pa_cons pe_int (pa_cons pe_int (pa_cons pe_int (pa_cons pe_int (pa_cons pe_int (pa_cons pe_int (pa_cons pe_int pa_nil)))))))) (pe_op op_mod (pe_callTy call_int1 (by rfl) T.int (by decide +kernel) (pa_cons (pe_ix ix_list (pv 0) pe_int (fun _ _ => rfl)) pa_nil)) pe_int) (fun _ _ => rfl))) (pss_cons (ps_set (i := 4) scNext.nd rfl (Or.inl rfl) (pe_op op_mod (pe_callTy call_int1 (by rfl) T.int (by decide +kernel) (pa_cons (pe_op op_pow (pe_op op_add (pe_op op_add (pe_ix ix_list (pv 0) pe_int (fun _ _ => rfl)) (pe_op op_mul pe_int (pe_ix ix_list (pv 0) pe_int (fun _ _ => rfl)))) pe_int) pe_int) pa_nil)) (pv 3))) (pss_cons (ps_set (i := 4) scNext.nd rfl (Or.inl rfl) (pe_op op_mod (pe_callTy call_int1 (by rfl) T.int (by decide +kernel) (pa_cons (pe_op op_mul (pe_op op_add (pv 4) (pe_ix ix_list (pv 0) pe_int (fun _ _ => rfl))) (pe_op op_add (pe_op op_fdiv (pv 4) pe_int) pe_int)) pa_nil)) (pv 3))) (pss_one (ps_ret (pe_op op_mod (pe_callTy call_int1 (by rfl) T.int (by decide +kernel) (pa_cons (pe_op op_fdiv (pv 4) pe_int) pa_nil)) (pv 1))))))))), ?_⟩
    refine ⟨_, rfl, a, _, _, _, rfl, rfl, SqL.of ha, atI_nat (j := 0) rfl, _, _, rfl, rfl, _, rfl, ?_⟩
    by_cases hz : 0 < s0
    · refine iteTb (decide_eq_true hz) ?_
      refine ⟨_, rfl, a, _, _, _, rfl, rfl, SqL.of ha, atI_nat (j := 0) rfl, .inl ⟨_, rfl, _, rfl, _, _, rfl, rfl, by omega, ?_⟩⟩
      refine ⟨_, rfl, a, _, _, _, rfl, rfl, SqL.of ha, atI_nat (j := 0) rfl, _, rfl, _, _, rfl, rfl, wide_div (by omega) (b := 200) (by omega) (by decide) (by decide), _, rfl, a, _, _, 0, rfl, rfl, ha, rfl, ?_⟩
      refine ⟨_, rfl, k _ _ (Int.emod_nonneg _ (by omega)) (Int.emod_lt_of_pos _ (by omega)) Kx.upd ⟨s0 / m, s1, s2, upd_same, Int.ediv_nonneg h0 (by omega), h1, h1', h2, by omega⟩⟩
    · refine iteFb (decide_eq_false hz) ?_
      refine ⟨_, rfl, a, _, _, _, rfl, rfl, SqL.of ha, atI_nat (j := 2) rfl, _, _, rfl, rfl, _, rfl, a, _, _, 2, rfl, rfl, ha, rfl, ?_⟩
      refine ⟨by show 7 ≤ sizeLine; decide, fun l hl => ?_⟩
      have hal : (upd (upd H a (.lst [.int s0, .int s1, .int (s2 + 1)])) l (.lst [.int 2147483647, .int 2147483629, .int 2147483587, .int 2147483579, .int 2147483563, .int 2147483549, .int 2147483543])) a = some (.lst [.int s0, .int s1, .int (s2 + 1)]) := by
        rw [upd_ne (ne_of_none upd_same hl)]
        exact upd_same
      obtain ⟨pr, hpr, hp1, hp2⟩ := prime_at (s := s2 + 1) (by omega)
      refine ⟨_, rfl, a, _, _, _, rfl, rfl, SqL.of hal, atI_nat (j := 2) rfl, .inl ⟨_, rfl, _, _, rfl, rfl, (by show (0 : Int) < 7; decide), l, _, _, _, rfl, rfl, SqL.of upd_same, hpr, ?_⟩⟩
      refine ⟨_, rfl, a, _, _, _, rfl, rfl, SqL.of hal, atI_nat (j := 1) rfl, _, rfl, a, _, _, _, rfl, rfl, SqL.of hal, atI_nat (j := 2) rfl, _, _, rfl, rfl, .inl ⟨by decide, by decide⟩, _, _, rfl, rfl, _, _, rfl, rfl, _, _, rfl, rfl, ⟨by decide, by decide, by omega⟩, .inl ⟨_, rfl, _, rfl, _, _, rfl, rfl, by omega, ?_⟩⟩
      generalize hf : (s1 + 7919 * (s2 + 1) + 1) ^ (5 : Int).toNat % pr = fg
      have f0 : 0 ≤ fg := by rw [← hf]; exact Int.emod_nonneg _ (by omega)
      have f1 : fg < pr := by rw [← hf]; exact Int.emod_lt_of_pos _ (by omega)
      refine ⟨_, rfl, _, rfl, a, _, _, _, rfl, rfl, SqL.of hal, atI_nat (j := 2) rfl, _, _, rfl, rfl, _, rfl, _, _, rfl, rfl, ⟨by decide, by decide⟩, _, _, rfl, rfl, _, _, rfl, rfl, .inl ⟨by omega, by omega⟩, .inl ⟨_, rfl, _, rfl, _, _, rfl, rfl, by omega, ?_⟩⟩
      refine ⟨_, rfl, _, _, rfl, rfl, ⟨by decide, by decide⟩, .inl ⟨_, rfl, _, rfl, _, _, rfl, rfl, by omega, ?_⟩⟩
      refine k _ _ (Int.emod_nonneg _ (by omega)) (Int.emod_lt_of_pos _ (by omega)) (fun c u n e => ?_) ⟨s0, s1, s2 + 1, hal, h0, h1, h1', by omega, by omega⟩
      have e2 : (upd H a (.lst [.int s0, .int s1, .int (s2 + 1)])) c = some u := by
        rw [upd_ne n]
        exact e
      rw [upd_ne (ne_of_none e2 hl)]
      exact e2
def spOne : Sp := fun vs H Q _ => ∃ (a q : Addr) (xs : List V) (b : Nat), vs = [.ref a, .ref q] ∧ Src H a b ∧ b ≤ 100000 ∧ q ≠ a ∧ H q = some (.lst xs) ∧ 0 < xs.length ∧ xs.length < 1000 ∧ ∀ x H', x ∈ xs → Kx a H H' → Src H' a (b + 1) → Q x H'
theorem scOne : FnScope ["_law_source", "_law_options"] ["_law_source", "_law_options"] (defScope s_law_one) := ⟨rfl, rfl, rfl, by decide +kernel, rfl, by decide +kernel, by decide +kernel⟩
theorem ok_one {f C fN : Addr} {fd fdN : FuncData} (F : Fun K "_law_one" "_law_one" s_law_one f fd) (T : Txt K mg C) (FN : Fun K "_law_next" "_law_next" s_law_next fN fdN) (bN : Binds K fdN ["_law_source", "_law_many"] []) (mN : mg "_law_next" = some (.ref fN)) :
    FnOk P w K mg base CX0 2 f fd ["_law_source", "_law_options"] spOne := by
  have GN : FnOk P w K mg base CX0 1 fN fdN ["_law_source", "_law_many"] spNext := ok_next FN T
  refine F.ok scOne (fun vs H Q E h => ?_) (fun cdv A outer s H vs Q E hr h => ?_)
  · obtain ⟨a, q, xs, b, rfl, _⟩ := h
    rfl
  · obtain ⟨a, q, xs, b, rfl, S, hb, hne, hq, hx0, hx1, k⟩ := h
    refine ⟨_, (pss_one (ps_ret (pe_ix ix_list (pv 1) (pe_call GN hr rfl mN FN.kp bN .nil pass0 (pa_cons (pv 0) (pa_cons (pe_callB call_len_seq (by rfl) T.len (by decide +kernel) (pa_cons (pv 1) pa_nil)) pa_nil))) (fun _ _ => rfl)))), ?_⟩
    refine ⟨_, rfl, _, rfl, _, rfl, q, _, rfl, .inl (SqL.of hq), a, (xs.length : Int), b, rfl, S, hb, by omega, by omega, fun r H' r0 r1 kx S' => ?_⟩
    obtain ⟨j, rfl⟩ : ∃ j : Nat, r = (j : Int) := ⟨r.toNat, by omega⟩
    have hj : j < xs.length := by omega
    exact ⟨q, _, _, _, rfl, rfl, SqL.of (kx _ _ hne hq), atI_nat (List.getElem?_eq_getElem hj), k _ _ (List.getElem_mem hj) kx S'⟩
def spCell (K : PySem.W.Frag) : Sp := fun vs H Q _ => ∃ (a : Addr) (ns : List Int), vs = [.ref a, .int 0] ∧ SqL K H a (ns.map V.int) ∧ Q (.int (ns.getD 0 0)) H
theorem scCell : FnScope ["_law_script", "_law_k"] ["_law_script", "_law_k"] (defScope s_law_cell_at) := ⟨rfl, rfl, rfl, by decide +kernel, rfl, by decide +kernel, by decide +kernel⟩
theorem ok_cell {f C : Addr} {fd : FuncData} (F : Fun K "_law_cell_at" "_law_cell_at" s_law_cell_at f fd) (T : Txt K mg C) : FnOk P w K mg base CX0 1 f fd ["_law_script", "_law_k"] (spCell K) := by
  refine F.ok scCell (fun vs H Q E h => ?_) (fun cdv A outer s H vs Q E hr h => ?_)
  · obtain ⟨a, ns, rfl, _⟩ := h
    rfl
  · obtain ⟨a, ns, rfl, hs, k⟩ := h
    refine ⟨_, (pss_cons (ps_if (pt_cmpR op_lt (pv 1) (pe_callB call_len_seq (by rfl) T.len (by decide +kernel) (pa_cons (pv 0) pa_nil)) (nomark _)) (pss_one (ps_ret (pe_ix ix_list (pv 0) (pv 1) (fun _ _ => rfl)))) pss_nil) (pss_one (ps_ret pe_int))), ?_⟩
    refine ⟨_, rfl, _, rfl, a, _, rfl, .inl hs, _, _, rfl, rfl, _, rfl, ?_⟩
    rw [List.length_map]
    cases ns with
    | nil => exact iteFb (by decide) k
    | cons n r =>
      refine iteTb (decide_eq_true (by rw [List.length_cons]; omega)) ?_
      exact ⟨_, rfl, _, rfl, a, _, _, _, rfl, rfl, hs, atI_nat (j := 0) rfl, k⟩
end
end RS
namespace RS
open PySem L2
/-! ### slices -/
theorem cut_to (xs : List V) (n : Nat) : cutV xs none (some (n : Int)) = xs.take n := by
  unfold cutV
  rw [HT.sIx_none, HT.sIx_nat, List.drop_zero, Nat.sub_zero]
  by_cases h : n ≤ xs.length
  · rw [Nat.min_eq_left h]
  · rw [Nat.min_eq_right (by omega), List.take_length, List.take_of_length_le (by omega)]
theorem cut_mid (xs : List V) (i n : Nat) : cutV xs (some (i : Int)) (some (n : Int)) = (xs.drop i).take (n - i) := by
  unfold cutV
  rw [HT.sIx_nat, HT.sIx_nat]
  by_cases h : i ≤ xs.length
  · rw [Nat.min_eq_left h]
    by_cases h2 : n ≤ xs.length
    · rw [Nat.min_eq_left h2]
    · rw [Nat.min_eq_right (by omega), List.take_of_length_le (by rw [List.length_drop]; exact Nat.le_refl _), List.take_of_length_le (by rw [List.length_drop]; omega)]
  · rw [show min i xs.length = xs.length by omega, List.drop_of_length_le (Nat.le_refl _), List.drop_of_length_le (show xs.length ≤ i by omega)]
    simp
theorem cut_back (xs : List V) {m : Nat} (h0 : 0 < m) (h : m ≤ xs.length) : cutV xs (some (-(m : Int))) none = xs.drop (xs.length - m) := by
  have e : HT.sIx xs.length 0 (some (-(m : Int))) = xs.length - m := by
    show (if -(m : Int) < 0 then (-(m : Int) + (xs.length : Int)).toNat else min (-(m : Int)).toNat xs.length) = _
    rw [if_pos (by omega)]
    omega
  unfold cutV
  rw [e, HT.sIx_none, List.take_of_length_le (by rw [List.length_drop]; exact Nat.le_refl _)]
theorem cut_from (xs : List V) {i : Nat} (h : i ≤ xs.length) : cutV xs (some (i : Int)) none = xs.drop i := by
  unfold cutV
  rw [HT.sIx_nat, HT.sIx_none, Nat.min_eq_left h, List.take_of_length_le (by rw [List.length_drop]; exact Nat.le_refl _)]
end RS
namespace Cmb
open PySem PySem.Spec PyProof.Rows
/-! ### combinations(list, 2): what the tables say of it -/
theorem mro_ : mroOf (.type "itertools.combinations") = pure [.type "itertools.combinations", .type "object"] := by
  rw [mroOf_type]
  kernel_rfl
theorem look_new : typeLookup (.type "itertools.combinations") "__new__" = pure (some (.builtin "itertools.combinations.__new__")) := by
  rw [typeLookup_type, builtinLookup_eq_fast]
  kernel_rfl
theorem sub_ : isSubtype (.type "itertools.combinations") (.type "itertools.combinations") = pure true := by
  rw [isSubtype_type]
  kernel_rfl
theorem slot_init : Slot "itertools.combinations" "__init__" "object.__init__" := by
  refine Slot.of (owner := "object") (n := "__init__") ?_ (by decide +kernel) (by decide +kernel) (by decide +kernel) (by first | exact .inl (by decide +kernel) | exact .inr (by decide +kernel)) ?_
  · rw [typeLookup_type, builtinLookup_eq_fast]
    kernel_rfl
  · rw [isSubtype_type]
    kernel_rfl
theorem slot_next : Slot "itertools.combinations" "__next__" "itertools.combinations.__next__" := by
  refine Slot.of (owner := "itertools.combinations") (n := "__next__") ?_ (by decide +kernel) (by decide +kernel) (by decide +kernel) (by first | exact .inl (by decide +kernel) | exact .inr (by decide +kernel)) ?_
  · rw [typeLookup_type, builtinLookup_eq_fast]
    kernel_rfl
  · rw [isSubtype_type]
    kernel_rfl
theorem entry_next : entryFor table "itertools.combinations.__next__" = some Builtin.«itertools.combinations.__next__» := by
  refine entryFor_of_tree ?_
  kernel_rfl
theorem entry_new : entryFor table "itertools.combinations.__new__" = some Builtin.«itertools.combinations.__new__» := by
  refine entryFor_of_tree ?_
  kernel_rfl
theorem called : TypeCalled "itertools.combinations" "itertools.combinations.__new__" "object.__init__" :=
  ⟨by decide +kernel, by decide +kernel, ⟨_, _, mro_⟩, madeBy_type mro_ look_new (by decide +kernel), by decide +kernel, sub_, slot_init⟩
theorem call_ok (a b : Value) : checkTypeCall "itertools.combinations" ⟨[a, b], []⟩ = pure () := by kernel_rfl
theorem new_ok (a b : Value) : checkBuiltinCall "itertools.combinations.__new__" ⟨[.type "itertools.combinations", a, b], []⟩ = pure () := by kernel_rfl
theorem owner_ : Manifest.owners.lookup (String.ofList (['s', 'n', 'o', 'i', 't', 'a', 'n', 'i', 'b', 'm', 'o', 'c', '.', 's', 'l', 'o', 'o', 't', 'r', 'e', 't', 'i'] : List Char).reverse) = some Manifest.sig_itertools_combinations := by kernel_rfl
theorem args_next (a : Value) : argsOk "itertools.combinations.__next__" ⟨[a], []⟩ := by
  unfold argsOk
  rw [signature?_of (n := ['_', '_', 't', 'x', 'e', 'n', '_', '_']) (o := ['s', 'n', 'o', 'i', 't', 'a', 'n', 'i', 'b', 'm', 'o', 'c', '.', 's', 'l', 'o', 'o', 't', 'r', 'e', 't', 'i']) (by kernel_rfl) owner_]
  kernel_rfl
theorem slot_iter : Slot "itertools.combinations" "__iter__" "itertools.combinations.__iter__" := by
  refine Slot.of (owner := "itertools.combinations") (n := "__iter__") ?_ (by decide +kernel) (by decide +kernel) (by decide +kernel) (by first | exact .inl (by decide +kernel) | exact .inr (by decide +kernel)) ?_
  · rw [typeLookup_type, builtinLookup_eq_fast]
    kernel_rfl
  · rw [isSubtype_type]
    kernel_rfl
theorem entry_iter : entryFor table "itertools.combinations.__iter__" = some Builtin.«dict_keyiterator.__iter__» := by
  refine entryFor_alias (id' := "dict_keyiterator.__iter__") ?_ ?_ (by decide +kernel) ?_
  · kernel_rfl
  · first
      | rfl
      | decide +kernel
      | (unfold String.splitOn; simp +decide [String.splitOnAux])
  · kernel_rfl
theorem args_iter (a : Value) : argsOk "itertools.combinations.__iter__" ⟨[a], []⟩ := by
  unfold argsOk
  rw [signature?_of (n := ['_', '_', 'r', 'e', 't', 'i', '_', '_']) (o := ['s', 'n', 'o', 'i', 't', 'a', 'n', 'i', 'b', 'm', 'o', 'c', '.', 's', 'l', 'o', 'o', 't', 'r', 'e', 't', 'i']) (by kernel_rfl) owner_]
  kernel_rfl
end Cmb
namespace Cmb
open PySem PySem.Spec PyProof.Rows
/-- the record of a walk over the pairs of the tuple at p -/
abbrev IsCmb (h : Heap) (it p : Addr) (st : Int) (old : Value) (i j : Nat) : Prop := h.get? it = some { cls := .type "itertools.combinations", dict := none, data := .fields #[.ref p, rawInt st, old, rawInt i, rawInt j], slots := #[] }
/-- a pool -/
abbrev IsPool (h : Heap) (p : Addr) (items : Array Value) : Prop := h.get? p = some { cls := .type "tuple", dict := none, data := .seq items 0, slots := #[] }
section
variable {prog : Program} {w : World} {A : Around} {E : Value → Shared → Prop} {s : Shared}
/-- a pair is handed out -/
theorem hand {it p : Addr} {st : Int} {old x y : Value} {i j i' j' : Nat} {items : Array Value} {Q : Value → Shared → Prop} (hit : IsCmb s.heap it p st old i' j') (hp : IsPool s.heap p items) (hx : items[i]? = some x) (hy : items[j]? = some y)
    (q : ∀ h', IsCmb h' it p st (.ref s.heap.objs.size) i' j' → h'.get? s.heap.objs.size = some { cls := .type "tuple", data := .seq #[x, y] } → h'.objs.size = s.heap.objs.size + 1 → (∀ b o, b ≠ it → s.heap.get? b = some o → h'.get? b = some o) → Q (.ref s.heap.objs.size) { s with heap := h' }) :
    wpAny (model prog w) A ((Builtin.Itertools.itPoolItems (.ref p) >>= fun its => newTuple ([i, j].map fun k => its.getD k .none)) >>= fun r => field (.ref it) 2 >>= fun b => setField (.ref it) 2 r >>= fun _ => letGo [b] [r] >>= fun _ => ret r) (fun fin s' => ∃ v, fin = .done (.ret v) ∧ Q v s') E s := by
  refine wpAny_bind (wpAny_bind ?_)
  unfold Builtin.Itertools.itPoolItems
  refine wpAny_bind (wpAny_seqItems hp rfl (wpAny_pure ?_))
  have e1 : items.getD i .none = x := by rw [Array.getD_eq_getD_getElem?, hx]; rfl
  have e2 : items.getD j .none = y := by rw [Array.getD_eq_getD_getElem?, hy]; rfl
  have e : ([i, j].map fun k => items.getD k Value.none) = [x, y] := by
    show [items.getD i .none, items.getD j .none] = _
    rw [e1, e2]
  rw [e]
  simp only [newTuple]
  refine wpAny_newObj_type ?_ (by size_fits)
  have lt : it < s.heap.objs.size := Heap.lt_size hit
  have hit1 := Heap.get?_push_of_some { cls := .type "tuple", data := .seq [x, y].toArray } hit
  have hT := Heap.get?_push_size s.heap (o := { cls := .type "tuple", data := .seq [x, y].toArray }) rfl
  have kp : ∀ b o, s.heap.get? b = some o → (s.heap.push { cls := .type "tuple", data := .seq [x, y].toArray }).get? b = some o := fun b o z => Heap.get?_push_of_some _ z
  have sz : (s.heap.push { cls := .type "tuple", data := .seq [x, y].toArray }).objs.size = s.heap.objs.size + 1 := Heap.size_push ..
  generalize s.heap.push { cls := .type "tuple", data := .seq [x, y].toArray } = h1 at hit1 hT kp sz
  refine wpAny_bind (wpAny_field hit1 rfl (x := old) rfl ?_)
  refine wpAny_bind (wpAny_setField hit1 rfl (by show 2 < 5; decide) ?_)
  refine wpAny_bind (wpAny_letGo ?_)
  refine wpAny_pure ⟨_, rfl, q _ (Heap.get?_update_self _ hit1 rfl) ?_ ?_ fun b o ne z => ?_⟩
  · exact ((Heap.SameBut.update ..).2 _ (Nat.ne_of_gt lt)).trans hT
  · exact (Heap.SameBut.update ..).1.trans sz
  · exact ((Heap.SameBut.update ..).2 _ ne).trans (kp b o z)
/-- the numbers that come next -/
def after (n : Nat) (l : List Nat) : Option (List Nat) :=
  match ((List.range l.length).reverse.find? fun k => l.getD k 0 != k + n - l.length) with
  | some k => some (l.take k ++ (List.range (l.length - k)).map (l.getD k 0 + 1 + ·))
  | none => none
theorem after_col {n i j : Nat} (h : j + 1 < n) : after n [i, j] = some [i, j + 1] := by
  have e : (j != 1 + n - 2) = true := by simp; omega
  simp only [after, List.length_cons, List.length_nil, List.range, List.range.loop, List.reverse_cons, List.reverse_nil, List.nil_append, List.cons_append, List.find?_cons]
  simp [e, List.range, List.range.loop]
theorem after_row {n i j : Nat} (h : j + 1 = n) (h2 : i + 2 < n) : after n [i, j] = some [i + 1, i + 2] := by
  have e : (j != 1 + n - 2) = false := by simp; omega
  have e2 : (i != n - 2) = true := by simp; omega
  simp only [after, List.length_cons, List.length_nil, List.range, List.range.loop, List.reverse_cons, List.reverse_nil, List.nil_append, List.cons_append, List.find?_cons]
  simp [e, e2, List.range.loop]
theorem after_no {n i j : Nat} (h : j + 1 = n) (h2 : i + 2 = n) : after n [i, j] = none := by
  have e : (j != 1 + n - 2) = false := by simp; omega
  have e2 : (i != n - 2) = false := by simp; omega
  simp only [after, List.length_cons, List.length_nil, List.range, List.range.loop, List.reverse_cons, List.reverse_nil, List.nil_append, List.cons_append, List.find?_cons]
  simp [e, e2]
/-- the walk's first pair -/
theorem next_first {it p : Addr} {old x y : Value} {i j : Nat} {items : Array Value} {Q : Option Value → Shared → Prop} (hit : IsCmb s.heap it p 0 old i j) (hp : IsPool s.heap p items) (ne : p ≠ it) (hx : items[i]? = some x) (hy : items[j]? = some y)
    (q : ∀ h', IsCmb h' it p 1 (.ref s.heap.objs.size) i j → h'.get? s.heap.objs.size = some { cls := .type "tuple", data := .seq #[x, y] } → h'.objs.size = s.heap.objs.size + 1 → (∀ b o, b ≠ it → s.heap.get? b = some o → h'.get? b = some o) → Q (some (.ref s.heap.objs.size)) { s with heap := h' }) :
    wpAny (model prog w) A (pyNext (.ref it)) Q E s := by
  have hT : s.TypeIs (.ref it) "itertools.combinations" := ⟨_, hit, rfl⟩
  unfold pyNext
  refine wpAny_bind (wpAny_attempt (wpAny_callSpecial?_slot (name := Str.ofString "__next__") hT slot_next (wpAny_call_entry slot_next hT entry_next ?_ (args_next _))))
  show wpAny _ _ (field (.ref it) 0 >>= _) _ _ s
  refine wpAny_bind (wpAny_field hit rfl (x := .ref p) rfl ?_)
  show wpAny _ _ (Builtin.Itertools.itNumbersFrom (.ref it) 3 >>= _) _ _ s
  refine wpAny_bind (show wpAny _ _ (load it >>= _) _ _ s from wpAny_bind (wpAny_load hit (wpAny_pure ?_)))
  show wpAny _ _ (Builtin.Itertools.itIntField (.ref it) 1 >>= _) _ _ s
  refine wpAny_bind (show wpAny _ _ (field (.ref it) 1 >>= _) _ _ s from wpAny_bind (wpAny_field hit rfl (x := rawInt 0) rfl (wpAny_pure ?_)))
  show wpAny _ _ (setField (.ref it) 1 (rawInt 1) >>= _) _ _ s
  refine wpAny_bind (wpAny_setField_rec hit (by show 1 < 5; decide) fun h1 hit1 sb => ?_)
  have hit1 : IsCmb h1 it p 1 old i j := hit1
  have hp1 : IsPool h1 p items := (sb.2 _ ne).trans hp
  have sz := sb.1
  refine hand (s := { s with heap := h1 }) hit1 hp1 hx hy fun h2 a b c d => wpAny_pure ?_
  rw [show ({ s with heap := h1 } : Shared).heap.objs.size = s.heap.objs.size from sz] at a b c ⊢
  exact q h2 a b c fun b' o nb z => d b' o nb ((sb.2 _ nb).trans z)
/-- .. its further ones -/
theorem next_more {it p : Addr} {old x y : Value} {i j i' j' : Nat} {items : Array Value} {Q : Option Value → Shared → Prop} (hit : IsCmb s.heap it p 1 old i j) (hp : IsPool s.heap p items) (ne : p ≠ it) (ha : after items.size [i, j] = some [i', j']) (hx : items[i']? = some x) (hy : items[j']? = some y)
    (q : ∀ h', IsCmb h' it p 1 (.ref s.heap.objs.size) i' j' → h'.get? s.heap.objs.size = some { cls := .type "tuple", data := .seq #[x, y] } → h'.objs.size = s.heap.objs.size + 1 → (∀ b o, b ≠ it → s.heap.get? b = some o → h'.get? b = some o) → Q (some (.ref s.heap.objs.size)) { s with heap := h' }) :
    wpAny (model prog w) A (pyNext (.ref it)) Q E s := by
  have hT : s.TypeIs (.ref it) "itertools.combinations" := ⟨_, hit, rfl⟩
  unfold pyNext
  refine wpAny_bind (wpAny_attempt (wpAny_callSpecial?_slot (name := Str.ofString "__next__") hT slot_next (wpAny_call_entry slot_next hT entry_next ?_ (args_next _))))
  show wpAny _ _ (field (.ref it) 0 >>= _) _ _ s
  refine wpAny_bind (wpAny_field hit rfl (x := .ref p) rfl ?_)
  show wpAny _ _ (Builtin.Itertools.itNumbersFrom (.ref it) 3 >>= _) _ _ s
  refine wpAny_bind (show wpAny _ _ (load it >>= _) _ _ s from wpAny_bind (wpAny_load hit (wpAny_pure ?_)))
  show wpAny _ _ (Builtin.Itertools.itIntField (.ref it) 1 >>= _) _ _ s
  refine wpAny_bind (show wpAny _ _ (field (.ref it) 1 >>= _) _ _ s from wpAny_bind (wpAny_field hit rfl (x := rawInt 1) rfl (wpAny_pure ?_)))
  show wpAny _ _ (Builtin.Itertools.itPoolItems (.ref p) >>= _) _ _ s
  refine wpAny_bind ?_
  unfold Builtin.Itertools.itPoolItems
  refine wpAny_bind (wpAny_seqItems hp rfl (wpAny_pure ?_))
  dsimp only
  split
  · rename_i nx hn
    have hn : after items.size [i, j] = some nx := Eq.trans (by kernel_rfl) hn
    rw [ha] at hn
    cases hn
    show wpAny _ _ (Builtin.Itertools.itSetNumbersFrom (.ref it) 3 [i', j'] >>= _) _ _ s
    refine wpAny_bind ?_
    unfold Builtin.Itertools.itSetNumbersFrom
    refine wpAny_updateFields hit rfl ?_ (by show 5 ≤ sizeLine + 3; decide)
    have hit1 := Heap.get?_update_self (Obj.mapFields fun fs => fs.extract 0 3 ++ (([i', j'] : List Nat).map fun (n : Nat) => rawInt n).toArray) hit rfl
    have sb := Heap.SameBut.update s.heap it (Obj.mapFields fun fs => fs.extract 0 3 ++ (([i', j'] : List Nat).map fun (n : Nat) => rawInt n).toArray)
    generalize s.heap.update it (Obj.mapFields fun fs => fs.extract 0 3 ++ (([i', j'] : List Nat).map fun (n : Nat) => rawInt n).toArray) = h1 at hit1 sb ⊢
    have hit1 : IsCmb h1 it p 1 old i' j' := hit1
    have hp1 : IsPool h1 p items := (sb.2 _ ne).trans hp
    have sz := sb.1
    refine hand (s := { s with heap := h1 }) hit1 hp1 hx hy fun h2 a b c d => wpAny_pure ?_
    rw [show ({ s with heap := h1 } : Shared).heap.objs.size = s.heap.objs.size from sz] at a b c ⊢
    exact q h2 a b c fun b' o nb z => d b' o nb ((sb.2 _ nb).trans z)
  · rename_i hn
    have hn : after items.size [i, j] = none := Eq.trans (by kernel_rfl) hn
    rw [ha] at hn
    cases hn
/-- the stop -/
theorem stop_ok {Q : Option Value → Shared → Prop} (hh : A.handled = none) (q : ∀ h', (∀ b o, s.heap.get? b = some o → h'.get? b = some o) → Q none { s with heap := h' }) :
    wpAny (model prog w) A.in1 (Builtin.Itertools.itStop : Sem Fin) (fun fin s' => ∃ v, fin = .done (.ret v) ∧ wpAny (model prog w) A (pure (some v)) Q E s')
      (fun e s' => wpAny (model prog w) A (do if ← isInstance e (.type "StopIteration") then pure none else throw e) Q E s') s := by
  unfold Builtin.Itertools.itStop
  refine wpAny_bind ?_
  simp only [newExc, newTuple]
  refine wpAny_bind (wpAny_newObj_type ?_ (by size_fits))
  refine wpAny_bind (m := firstArgMember _ _) (wpAny_of_eq (a := Value.none) (by first | rfl | (simp only [firstArgMember]; rfl)) ?_)
  refine wpAny_newObj_type ?_ (by size_fits)
  simp only [raiseNew]
  refine wpAny_bind (wpAny_handled ?_)
  rw [show A.in1.handled = none from hh]
  refine wpAny_bind (wpAny_pure (wpAny_throw ?_))
  refine wpAny_bind (wpAny_isInstance (T := "StopIteration") (b := true) ⟨_, Heap.get?_push_size _ rfl, rfl⟩ isSubtype_stop ?_)
  exact wpAny_pure (q _ fun b o z => Heap.get?_push_of_some _ (Heap.get?_push_of_some _ z))
/-- the walk is over -/
theorem next_none {it p : Addr} {st : Int} {old : Value} {i j : Nat} {items : Array Value} {Q : Option Value → Shared → Prop} (hh : A.handled = none) (hit : IsCmb s.heap it p st old i j) (hp : IsPool s.heap p items) (ne : p ≠ it) (ha : (st = 1 ∧ after items.size [i, j] = none) ∨ st = 2)
    (q : ∀ h', (∀ b o, b ≠ it → s.heap.get? b = some o → h'.get? b = some o) → Q none { s with heap := h' }) : wpAny (model prog w) A (pyNext (.ref it)) Q E s := by
  have hT : s.TypeIs (.ref it) "itertools.combinations" := ⟨_, hit, rfl⟩
  unfold pyNext
  refine wpAny_bind (wpAny_attempt (wpAny_callSpecial?_slot (name := Str.ofString "__next__") hT slot_next (wpAny_call_entry slot_next hT entry_next ?_ (args_next _))))
  show wpAny _ _ (field (.ref it) 0 >>= _) _ _ s
  refine wpAny_bind (wpAny_field hit rfl (x := .ref p) rfl ?_)
  show wpAny _ _ (Builtin.Itertools.itNumbersFrom (.ref it) 3 >>= _) _ _ s
  refine wpAny_bind (show wpAny _ _ (load it >>= _) _ _ s from wpAny_bind (wpAny_load hit (wpAny_pure ?_)))
  show wpAny _ _ (Builtin.Itertools.itIntField (.ref it) 1 >>= _) _ _ s
  refine wpAny_bind (show wpAny _ _ (field (.ref it) 1 >>= _) _ _ s from wpAny_bind (wpAny_field hit rfl (x := rawInt st) rfl (wpAny_pure ?_)))
  rcases ha with ⟨rfl, ha⟩ | rfl
  · show wpAny _ _ (Builtin.Itertools.itPoolItems (.ref p) >>= _) _ _ s
    refine wpAny_bind ?_
    unfold Builtin.Itertools.itPoolItems
    refine wpAny_bind (wpAny_seqItems hp rfl (wpAny_pure ?_))
    dsimp only
    split
    · rename_i nx hn
      have hn : after items.size [i, j] = some nx := Eq.trans (by kernel_rfl) hn
      rw [ha] at hn
      cases hn
    · refine wpAny_bind (wpAny_setField_rec hit (by show 1 < 5; decide) fun h1 hit1 sb => ?_)
      exact stop_ok (s := { s with heap := h1 }) hh fun h2 k => q h2 fun b o nb z => k b o ((sb.2 _ nb).trans z)
  · show wpAny _ _ (rule "itertools.combinations.ended" >>= _) _ _ s
    exact wpAny_bind (wpAny_rule (stop_ok hh fun h2 k => q h2 fun b o _ z => k b o z))
/-- iter() of it is it -/
theorem iter_self {it p : Addr} {st : Int} {old : Value} {i j : Nat} {Q : Value → Shared → Prop} (hit : IsCmb s.heap it p st old i j) (q : Q (.ref it) s) : wpAny (model prog w) A (pyIter (.ref it)) Q E s := by
  have hT : s.TypeIs (.ref it) "itertools.combinations" := ⟨_, hit, rfl⟩
  refine wpAny_pyIter_slot hT slot_iter (wpAny_call_entry slot_iter hT entry_iter ?_ (args_iter _))
  show wpAny _ _ (ret (.ref it)) _ _ s
  exact wpAny_pure ⟨_, rfl, "itertools.combinations", _, hT, slot_next.lookup, q⟩
end
end Cmb
namespace Cmb
open PySem PySem.Spec PyProof.Rows
open AutoSeq1 (wpAny_loadPart')
/-- the record that is laid -/
def rec_ (p : Addr) (m : Nat) : Obj := { cls := .type "itertools.combinations", data := .fields #[.ref p, rawInt (if 2 > m then 2 else 0), .none, rawInt ((0 : Nat) : Int), rawInt ((1 : Nat) : Int)] }
theorem no_dict : (!typeHasDict (.type "itertools.combinations")) = true := by kernel_rfl
set_option maxHeartbeats 1000000 in
theorem meets_new (l : Addr) (items : Array Value) (n : Nat) (d : Option Addr) (sl : Array (Option Value)) (t : Tok) (hz : items.size ≤ sizeLine) :
    Meets (Builtin.«itertools.combinations.__new__» ⟨[.type "itertools.combinations", .ref l, .int 2 t], []⟩) (fun _ R s => s.heap.get? l = some { cls := .type "list", dict := d, data := .seq items n, slots := sl } ∧
      ∀ h' : Heap, (∀ b o, s.heap.get? b = some o → h'.get? b = some o) → R (.ok (.ret (.ref (h'.push { cls := .type "tuple", data := .seq items }).objs.size))) { s with heap := (h'.push { cls := .type "tuple", data := .seq items }).push (rec_ h'.objs.size items.size) }) :=
  .of_wp fun prog w A R s k => by
    obtain ⟨hl, r⟩ := k
    obtain ⟨hp, g, dr, tk, os⟩ := s
    have hsub := sub_
    unfold Builtin.«itertools.combinations.__new__»
    wp_walk using wpAny_loadPart' hl, wpAny_collect_seq (hsz := hz) l (.inl rfl) hl rfl rfl
    refine wpAny_of_eq (a := true) (show isSubtype (.type "itertools.combinations") (.type ("itertools." ++ "combinations")) = pure true from ?_) ?_
    · rw [show ("itertools." ++ "combinations" : String) = "itertools.combinations" by decide]
      exact sub_
    wp_walk using wpAny_loadPart' hl, wpAny_collect_seq (hsz := hz) l (.inl rfl) hl rfl rfl
    intro h' hk
    have k := r h' hk
    clear r
    dsimp only
    rw [if_neg (show ¬ ((2 : Int) < 0) by decide), if_neg (show ¬ (Builtin.Itertools.itTooMany 2 = true) by decide)]
    refine wpAny_bind ?_
    simp only [newTuple]
    refine wpAny_newObj_type ?_ (by show items.toList.toArray.size ≤ sizeLine; simpa using hz)
    refine wpAny_pure ?_
    dsimp only
    have el : items.toList.toArray = items := by simp
    have ez : items.toList.length = items.size := by simp
    rw [el, ez]
    refine wpAny_bind ?_
    unfold Builtin.Itertools.itNewRecord
    rw [if_pos (show (!typeHasDict (.type "itertools.combinations")) = true from no_dict)]
    refine wpAny_newObj_type ?_ ?_
    · exact wpAny_pure ⟨_, rfl, k⟩
    · show (5 : Nat) ≤ sizeLine + 2
      decide

section
variable {prog : Program} {w : World} {A : Around} {E : Value → Shared → Prop} {s : Shared}
theorem call_new {l : Addr} {items : Array Value} {t : Tok} {Q : Value → Shared → Prop} (hL : s.heap.IsList l items) (hz : items.size ≤ sizeLine)
    (q : ∀ h' : Heap, (∀ b o, s.heap.get? b = some o → h'.get? b = some o) → Q (.ref (h'.push { cls := .type "tuple", data := .seq items }).objs.size) { s with heap := (h'.push { cls := .type "tuple", data := .seq items }).push (rec_ h'.objs.size items.size) }) :
    wpAny (model prog w) A (call (.type "itertools.combinations") [.ref l, .int 2 t]) Q E s := by
  obtain ⟨⟨c, dct, dt, sl⟩, hl, hc, n, hd⟩ := hL
  have hc : c = .type "list" := hc
  have hd : dt = .seq items n := hd
  subst hc hd
  exact callType_new called (by decide) (call_ok _ _) (new_ok _ _) (fun obj => F.args_object_init_3 obj _ _) entry_new (meets_new l items n dct sl t hz) ⟨hl, fun h' hk => ⟨⟨_, Heap.get?_push_size _ rfl, rfl⟩, q h' hk⟩⟩
end
end Cmb
namespace Cmb
/-! ### the pairs in their order -/
def row (n a : Nat) : List (Nat × Nat) := (List.range (n - (a + 1))).map fun d => (a, a + 1 + d)
def rows (n : Nat) : Nat → List (Nat × Nat)
  | 0 => []
  | k + 1 => row n (n - (k + 1)) ++ rows n k
def pairsOf (n : Nat) : List (Nat × Nat) := rows n n
def fromP (n a b : Nat) : List (Nat × Nat) := (List.range (n - b)).map (fun d => (a, b + d)) ++ rows n (n - (a + 1))
theorem fromP_col {n a b : Nat} (h : b + 1 < n) : fromP n a b = (a, b) :: fromP n a (b + 1) := by
  unfold fromP
  rw [show n - b = (n - (b + 1)) + 1 by omega, List.range_succ_eq_map, List.map_cons, List.map_map]
  have e : ((fun d => (a, b + d)) ∘ Nat.succ) = fun d => (a, b + 1 + d) := funext fun d => by
    show (a, b + (d + 1)) = (a, b + 1 + d)
    rw [show b + (d + 1) = b + 1 + d by omega]
  rw [e]
  rfl
theorem fromP_row {n a b : Nat} (h : b + 1 = n) (h2 : a + 2 < n) : fromP n a b = (a, b) :: fromP n (a + 1) (a + 2) := by
  unfold fromP
  rw [show n - b = 1 by omega, show n - (a + 1) = (n - (a + 2)) + 1 by omega]
  show (a, b + 0) :: ([] ++ (row n (n - ((n - (a + 2)) + 1)) ++ rows n (n - (a + 2)))) = _
  rw [show n - ((n - (a + 2)) + 1) = a + 1 by omega]
  rfl
theorem fromP_no {n a b : Nat} (h : b + 1 = n) (h2 : a + 2 = n) : fromP n a b = [(a, b)] := by
  unfold fromP
  rw [show n - b = 1 by omega, show n - (a + 1) = 1 by omega]
  show (a, b + 0) :: ([] ++ (row n (n - (0 + 1)) ++ rows n 0)) = _
  rw [show row n (n - (0 + 1)) = [] by unfold row; rw [show n - (n - (0 + 1) + 1) = 0 by omega]; rfl]
  rfl
theorem pairs_from {n : Nat} (h : 2 ≤ n) : pairsOf n = fromP n 0 1 := by
  unfold pairsOf fromP
  obtain ⟨k, rfl⟩ : ∃ k, n = k + 1 := ⟨n - 1, by omega⟩
  show row (k + 1) (k + 1 - (k + 1)) ++ rows (k + 1) k = _
  rw [show k + 1 - (k + 1) = 0 by omega]
  rfl
theorem pairs_few {n : Nat} (h : n < 2) : pairsOf n = [] := by
  match n, h with
  | 0, _ => rfl
  | 1, _ => rfl
theorem mem_row {n a : Nat} {p : Nat × Nat} : p ∈ row n a ↔ p.1 = a ∧ a < p.2 ∧ p.2 < n := by
  unfold row
  rw [List.mem_map]
  constructor
  · rintro ⟨d, hd, rfl⟩
    have := List.mem_range.mp hd
    exact ⟨rfl, by show a < a + 1 + d; omega, by show a + 1 + d < n; omega⟩
  · obtain ⟨x, y⟩ := p
    rintro ⟨rfl, h1, h2⟩
    have h1 : x < y := h1
    have h2 : y < n := h2
    exact ⟨y - (x + 1), List.mem_range.mpr (by omega), by show (x, x + 1 + (y - (x + 1))) = (x, y); rw [show x + 1 + (y - (x + 1)) = y by omega]⟩
theorem mem_rows {n : Nat} {p : Nat × Nat} : ∀ {k : Nat}, k ≤ n → (p ∈ rows n k ↔ n - k ≤ p.1 ∧ p.1 < p.2 ∧ p.2 < n)
  | 0, _ => by
    show p ∈ [] ↔ _
    constructor
    · intro z
      cases z
    · intro z
      omega
  | k + 1, h => by
    show p ∈ row n (n - (k + 1)) ++ rows n k ↔ _
    rw [List.mem_append, mem_row, mem_rows (k := k) (by omega)]
    omega
theorem mem_pairs {n : Nat} {p : Nat × Nat} : p ∈ pairsOf n ↔ p.1 < p.2 ∧ p.2 < n := by
  unfold pairsOf
  rw [mem_rows (Nat.le_refl n)]
  omega
theorem row_nodup (n a : Nat) : (row n a).Nodup := by
  unfold row
  refine List.pairwise_map.mpr (List.nodup_range.imp ?_)
  intro x y h e
  have e : a + 1 + x = a + 1 + y := (Prod.mk.inj e).2
  omega
theorem rows_nodup {n : Nat} : ∀ {k : Nat}, k ≤ n → (rows n k).Nodup
  | 0, _ => List.nodup_nil
  | k + 1, h => by
    refine List.nodup_append.mpr ⟨row_nodup _ _, rows_nodup (by omega), fun x hx y hy e => ?_⟩
    subst e
    have h1 := mem_row.mp hx
    have h2 := (mem_rows (by omega)).mp hy
    omega
theorem pairs_nodup (n : Nat) : (pairsOf n).Nodup := rows_nodup (Nat.le_refl n)
end Cmb
namespace Cmb
open PySem PySem.Spec PyProof.Rows L2
/-- the pairs of xs in their order, each in a new tuple -/
def Itp (xs : List V) : It :=
  ⟨fun i _ => i < (pairsOf xs.length).length, fun i H v H' => ∃ T x y a b, v = .ref T ∧ H T = none ∧ H' = upd H T (.tup [x, y]) ∧ (pairsOf xs.length)[i]? = some (a, b) ∧ xs[a]? = some x ∧ xs[b]? = some y, fun i _ => (pairsOf xs.length).length ≤ i⟩
/-- where the record stands at turn i -/
def At (n : Nat) (st : Int) (a b i : Nat) : Prop := (st = 0 ∧ a < b ∧ b < n ∧ (pairsOf n).drop i = fromP n a b) ∨ (st = 1 ∧ a < b ∧ b < n ∧ (a, b) :: (pairsOf n).drop i = fromP n a b) ∨ (st = 2 ∧ (pairsOf n).drop i = [])
theorem At.zero (n : Nat) : At n (if 2 > n then 2 else 0) 0 1 0 := by
  by_cases h : 2 > n
  · rw [if_pos h]
    exact .inr (.inr ⟨rfl, by rw [pairs_few h]; rfl⟩)
  · rw [if_neg h]
    exact .inl ⟨rfl, by omega, by omega, by rw [List.drop_zero]; exact pairs_from (by omega)⟩
theorem drop_head {α : Type} {l r : List α} {i : Nat} {x : α} (h : l.drop i = x :: r) : l[i]? = some x ∧ l.drop (i + 1) = r ∧ i < l.length := by
  have hi : i < l.length := by
    rcases Nat.lt_or_ge i l.length with z | z
    · exact z
    · rw [List.drop_eq_nil_of_le z] at h
      cases h
  rw [List.drop_eq_getElem_cons hi] at h
  injection h with h1 h2
  exact ⟨by rw [List.getElem?_eq_getElem hi, h1], h2, hi⟩
theorem at_some {n i a b : Nat} {x : Nat × Nat} {r : List (Nat × Nat)} (hab : a < b) (hb : b < n) (h : fromP n a b = x :: r) : x = (a, b) ∧ ((∃ a' b', after n [a, b] = some [a', b'] ∧ a' < b' ∧ b' < n ∧ r = fromP n a' b') ∨ (after n [a, b] = none ∧ r = [])) := by
  by_cases h1 : b + 1 < n
  · rw [fromP_col h1] at h
    injection h with e1 e2
    exact ⟨e1.symm, .inl ⟨a, b + 1, after_col h1, by omega, h1, e2.symm⟩⟩
  · have h1 : b + 1 = n := by omega
    by_cases h2 : a + 2 < n
    · rw [fromP_row h1 h2] at h
      injection h with e1 e2
      exact ⟨e1.symm, .inl ⟨a + 1, a + 2, after_row h1 h2, by omega, h2, e2.symm⟩⟩
    · have h2 : a + 2 = n := by omega
      rw [fromP_no h1 h2] at h
      injection h with e1 e2
      exact ⟨e1.symm, .inr ⟨after_no h1 h2, e2.symm⟩⟩
theorem turn_pairs {P : Program} {w : World} {K : PySem.W.Frag} {elts : List Expr} {kk : Nat} {tpos : Pos} (it p : Addr) {xs : List V} {us : List Value} (rv : Vals xs us) (ne : p ≠ it) :
    Turn P w K (.Tuple elts kk tpos) (Itp xs) [it, p] it (fun i h => (∃ st old a b, IsCmb h it p st old a b ∧ At xs.length st a b i) ∧ IsPool h p us.toArray) where
  mem := by simp
  obj := fun i h k b hb => by
    obtain ⟨⟨st, old, x, y, h1, _⟩, h2⟩ := k
    rcases (show b = it ∨ b = p by simpa using hb) with rfl | rfl
    · exact ⟨_, h1, fun v z => by cases z⟩
    · exact ⟨_, h2, fun v z => by cases z⟩
  keep := fun i h h' k same => by
    obtain ⟨⟨st, old, x, y, h1, at_⟩, h2⟩ := k
    exact ⟨⟨st, old, x, y, same it (by simp) _ h1, at_⟩, same p (by simp) _ h2⟩
  item := by
    intro X eP ew eK hc i pins s σ H E I hf k go
    subst eP ew eK
    obtain ⟨⟨st, old, a, b, hit, at_⟩, hp⟩ := k
    have go : i < (pairsOf xs.length).length := go
    have sz : us.toArray.size = xs.length := by rw [List.size_toArray]; exact rv.length.symm
    have il : it < s.heap.objs.size := Heap.lt_size hit
    have pl : p < s.heap.objs.size := Heap.lt_size hp
    -- what comes, and where the record then stands
    obtain ⟨a', b', hab, hb, hL, hat, hway⟩ : ∃ a' b', a' < b' ∧ b' < xs.length ∧ (pairsOf xs.length)[i]? = some (a', b') ∧ At xs.length 1 a' b' (i + 1) ∧ ((st = 0 ∧ a = a' ∧ b = b') ∨ (st = 1 ∧ after xs.length [a, b] = some [a', b'])) := by
      rcases at_ with ⟨rfl, h1, h2, h3⟩ | ⟨rfl, h1, h2, h3⟩ | ⟨_, h3⟩
      · rw [List.drop_eq_getElem_cons go] at h3
        obtain ⟨e, _⟩ := at_some (i := i) h1 h2 h3.symm
        exact ⟨a, b, h1, h2, by rw [List.getElem?_eq_getElem go, e], .inr (.inl ⟨rfl, h1, h2, by rw [← h3, e]⟩), .inl ⟨rfl, rfl, rfl⟩⟩
      · obtain ⟨_, h4⟩ := at_some (i := i) h1 h2 h3.symm
        rcases h4 with ⟨a', b', h5, h6, h7, h8⟩ | ⟨_, h8⟩
        · rw [List.drop_eq_getElem_cons go] at h8
          obtain ⟨e, _⟩ := at_some (i := i) h6 h7 h8.symm
          exact ⟨a', b', h6, h7, by rw [List.getElem?_eq_getElem go, e], .inr (.inl ⟨rfl, h6, h7, by rw [← h8, e]⟩), .inr ⟨rfl, h5⟩⟩
        · rw [List.drop_eq_getElem_cons go] at h8
          cases h8
      · rw [List.drop_eq_getElem_cons go] at h3
        cases h3
    have gx : xs[a']? = some xs[a'] := List.getElem?_eq_getElem (by omega)
    have gy : xs[b']? = some xs[b'] := List.getElem?_eq_getElem hb
    generalize xs[a'] = x at gx
    generalize xs[b'] = y at gy
    obtain ⟨u, hu, ru⟩ := rv.get gx
    obtain ⟨u2, hu2, ru2⟩ := rv.get gy
    have fin : ∀ h', IsCmb h' it p 1 (.ref s.heap.objs.size) a' b' → h'.get? s.heap.objs.size = some { cls := .type "tuple", data := .seq #[u, u2] } → h'.objs.size = s.heap.objs.size + 1 → (∀ c o, c ≠ it → s.heap.get? c = some o → h'.get? c = some o) →
        ∃ v, some (Value.ref s.heap.objs.size) = some v ∧ wpAny (model X.prog X.w) X.A (letOwnedTupleGo (.Tuple elts kk tpos) (.ref it) v) (fun _ s2 => ∃ x H', Inv X pins σ H' s2 ∧ RelV x v ∧ (Itp xs).yld i H x H' ∧ ((∃ st old a b, IsCmb s2.heap it p st old a b ∧ At xs.length st a b (i + 1)) ∧ IsPool s2.heap p us.toArray) ∧ ∀ b ∈ [it, p], H' b = none) E { s with heap := h' } := by
      intro h' hit' hT _ kp
      refine ⟨_, rfl, go_of (n := "itertools.combinations") hit' rfl rfl (by decide) ?_⟩
      have new : ObjOk X.prog X.w (upd H s.heap.objs.size (.tup [x, y])) h' s.heap.objs.size (.tup [x, y]) := ⟨by show 2 ≤ sizeLine; decide, [u, u2], .cons ru (.cons ru2 .nil), ⟨_, hT, rfl, _, rfl⟩⟩
      have I1 : Inv X pins σ (upd H s.heap.objs.size (.tup [x, y])) { s with heap := h' } := I.turnedNew (t' := s.toks) (ch := [it, p]) (fun c o hm q => kp c o (fun z => hm (by simp [z])) q) hf (Nat.le_refl _) new
      refine ⟨.ref s.heap.objs.size, _, I1, rfl, ⟨_, x, y, a', b', rfl, I.hok.fresh (Nat.le_refl _), rfl, hL, gx, gy⟩, ⟨⟨1, _, a', b', hit', hat⟩, kp p _ ne hp⟩, fun c hm => ?_⟩
      have lt : c < s.heap.objs.size := by
        rcases (show c = it ∨ c = p by simpa using hm) with rfl | rfl
        · exact il
        · exact pl
      rw [upd_ne (Nat.ne_of_lt lt)]
      exact (hf c hm).1
    rcases hway with ⟨rfl, rfl, rfl⟩ | ⟨rfl, ha⟩
    · exact next_first hit hp ne (by simpa using hu) (by simpa using hu2) fin
    · exact next_more hit hp ne (by rw [sz]; exact ha) (by simpa using hu) (by simpa using hu2) fin
  done := by
    intro X eP ew eK hc i pins s σ H E I hf k stop
    subst eP ew eK
    obtain ⟨⟨st, old, a, b, hit, at_⟩, hp⟩ := k
    have stop : (pairsOf xs.length).length ≤ i := stop
    have sz : us.toArray.size = xs.length := by rw [List.size_toArray]; exact rv.length.symm
    have nil : (pairsOf xs.length).drop i = [] := List.drop_eq_nil_of_le stop
    have way : (st = 1 ∧ after us.toArray.size [a, b] = none) ∨ st = 2 := by
      rcases at_ with ⟨rfl, h1, h2, h3⟩ | ⟨rfl, h1, h2, h3⟩ | ⟨rfl, h3⟩
      · rw [nil] at h3
        by_cases z : b + 1 < xs.length
        · rw [fromP_col z] at h3
          cases h3
        · by_cases z2 : a + 2 < xs.length
          · rw [fromP_row (by omega) z2] at h3
            cases h3
          · rw [fromP_no (by omega) (by omega)] at h3
            cases h3
      · obtain ⟨_, h4⟩ := at_some (i := i) h1 h2 h3.symm
        rcases h4 with ⟨a', b', h5, h6, h7, h8⟩ | ⟨h8, _⟩
        · rw [nil] at h8
          by_cases z : b' + 1 < xs.length
          · rw [fromP_col z] at h8
            cases h8
          · by_cases z2 : a' + 2 < xs.length
            · rw [fromP_row (by omega) z2] at h8
              cases h8
            · rw [fromP_no (by omega) (by omega)] at h8
              cases h8
        · exact .inl ⟨rfl, by rw [sz]; exact h8⟩
      · exact .inr rfl
    obtain ⟨f0, f1, f2, f3, f4, f5⟩ := hf it (by simp)
    exact next_none (I.ok.hd hc) hit hp ne way fun h' kp => ⟨rfl, I.turned (t' := s.toks) (fun c o hm q => kp c o hm q) f0 f1 f3 f4 f5⟩
  self := fun A i s Q E k q => let ⟨⟨_, _, _, _, hit, _⟩, _⟩ := k; iter_self hit q
end Cmb
namespace Cmb
open PySem PySem.Spec PyProof.Rows L2
def iPairs (K : PySem.W.Frag) (ta : TA) : TI := fun σ H R => ta σ H fun vs H1 => ∃ a xs, vs = [.ref a, .int 2] ∧ SqL K H1 a xs ∧ R (Itp xs) H1
theorem two_of {x y : V} : ∀ {us : List Value}, Vals [x, y] us → ∃ u1 u2, us = [u1, u2] ∧ RelV x u1 ∧ RelV y u2
  | _, .cons r1 (.cons r2 .nil) => ⟨_, _, rfl, r1, r2⟩
theorem pi_pairs {X : Cx} {e r : Expr} {ta : TA} {p pos tpos : Pos} {elts : List Expr} {kk : Nat} (hg : Gl X "combinations") (hm : X.mg "combinations" = some (.type "itertools.combinations")) (ha : PA X [e, r] ta) (hs : starEach [e, r] X.env = (false, eval e X.env) :: starEach [r] X.env := by rfl)
    (hpl : (backTo pos (starEach [r] X.env)).any (·.1) = false := by rfl) : PI X (.Tuple elts kk tpos) (.Call (.Name "combinations" p) [e, r] [] pos) (iPairs X.K ta) := by
  refine ⟨fun pins s σ H R I h => ?_⟩
  refine Call_ (ld_glob I hg hm (PyProof.Rows.callWith_type1 (thn (ha.run pos pins s σ H _ I h) fun us s1 ⟨vs, H1, I1, r1, q1⟩ => ?_) hs hpl))
  obtain ⟨a, xs, rfl, hq, q⟩ := q1
  obtain ⟨u1, u2, rfl, ra, rb⟩ := two_of r1
  cases ra
  obtain ⟨t, rfl⟩ := rb
  obtain ⟨its, rv, p', hz⟩ := I1.list hq
  have hl : its.length = xs.length := rv.length.symm
  refine call_new p'.isList (by rw [List.size_toArray, hl]; exact hz) fun h' hk => ?_
  have sz1 : (h'.push { cls := .type "tuple", data := .seq its.toArray }).objs.size = h'.objs.size + 1 := Heap.size_push ..
  have hp0 : IsPool (h'.push { cls := .type "tuple", data := .seq its.toArray }) h'.objs.size its.toArray := Heap.get?_push_size _ rfl
  have hit : IsCmb ((h'.push { cls := .type "tuple", data := .seq its.toArray }).push (rec_ h'.objs.size its.toArray.size)) (h'.push { cls := .type "tuple", data := .seq its.toArray }).objs.size h'.objs.size (if 2 > its.toArray.size then 2 else 0) .none 0 1 := Heap.get?_push_size _ rfl
  have hp := Heap.get?_push_of_some (rec_ h'.objs.size its.toArray.size) hp0
  have ne : h'.objs.size ≠ (h'.push { cls := .type "tuple", data := .seq its.toArray }).objs.size := by rw [sz1]; omega
  refine iter_self hit ?_
  have I1' : Inv X pins σ H1 { s1 with heap := h' } := I1.kept (t' := s1.toks) hk
  have I2 : Inv X pins σ H1 { s1 with heap := (h'.push { cls := .type "tuple", data := .seq its.toArray }).push (rec_ h'.objs.size its.toArray.size) } := I1.kept (t' := s1.toks) fun b o z => Heap.get?_push_of_some _ (Heap.get?_push_of_some _ (hk b o z))
  refine ⟨_, [(h'.push { cls := .type "tuple", data := .seq its.toArray }).objs.size, h'.objs.size], _, _, H1, rfl, I2, turn_pairs _ h'.objs.size rv ne, ⟨⟨_, _, 0, 1, hit, ?_⟩, hp⟩, fun b hb => ?_, q⟩
  · rw [show its.toArray.size = xs.length by rw [List.size_toArray]; exact hl]
    exact At.zero _
  · have hle : ({ s1 with heap := h' } : Shared).heap.objs.size ≤ b := by
      show h'.objs.size ≤ b
      rcases (show b = (h'.push { cls := .type "tuple", data := .seq its.toArray }).objs.size ∨ b = h'.objs.size by simpa using hb) with rfl | rfl
      · rw [sz1]
        omega
      · exact Nat.le_refl _
    exact I1'.fpOk hle (I1'.hok.fresh hle)
/-- the turns -/
theorem walk_pairs {xs : List V} : Walk (Itp xs) (pairsOf xs.length).length (fun _ => True) (fun i H v H' => ∃ T x y a b, v = .ref T ∧ H T = none ∧ H' = upd H T (.tup [x, y]) ∧ (pairsOf xs.length)[i]? = some (a, b) ∧ xs[a]? = some x ∧ xs[b]? = some y) :=
  ⟨fun _ _ hi _ => hi, fun _ _ => Nat.le_refl _, fun _ _ _ _ _ _ y => y⟩
end Cmb
/-! ### len(set(xs)) of any ints -/
namespace L2
open PySem PySem.Spec PyProof.Rows
theorem firstMet_few {f : Nat → Int} : ∀ i, (firstMet f i).length = i → firstMet f i = (List.range i).map f ∧ ((List.range i).map f).Nodup
  | 0, _ => ⟨rfl, List.nodup_nil⟩
  | i + 1, h => by
    have le := firstMet_length_le f i
    rw [firstMet_succ] at h ⊢
    unfold step_dedup at h ⊢
    by_cases z : ((firstMet f i).any (· == f i)) = true
    · rw [if_pos z] at h
      omega
    · rw [if_neg z] at h ⊢
      have hl : (firstMet f i).length = i := by
        rw [List.length_append, List.length_singleton] at h
        omega
      obtain ⟨e, nd⟩ := firstMet_few i hl
      rw [e] at z ⊢
      rw [List.range_succ, List.map_append]
      refine ⟨rfl, List.nodup_append.mpr ⟨nd, List.nodup_cons.mpr ⟨(fun q => by cases q), List.nodup_nil⟩, fun x hx y hy q => z ?_⟩⟩
      have ey : y = f i := List.mem_singleton.mp hy
      exact List.any_eq_true.mpr ⟨x, hx, by rw [q, ey]; exact beq_self_eq_true _⟩
theorem firstMet_nd {f : Nat → Int} : ∀ i, ((List.range i).map f).Nodup → (firstMet f i).length = i
  | 0, _ => rfl
  | i + 1, h => by
    rw [List.range_succ, List.map_append] at h
    obtain ⟨h1, _, h3⟩ := List.nodup_append.mp h
    have hl := firstMet_nd i h1
    obtain ⟨e, _⟩ := firstMet_few i hl
    rw [firstMet_succ]
    unfold step_dedup
    rw [if_neg, List.length_append, hl]
    · rfl
    · intro z
      obtain ⟨x, hx, q⟩ := List.any_eq_true.mp z
      rw [e] at hx
      exact h3 x hx (f i) (List.mem_singleton.mpr rfl) (eq_of_beq q)
theorem map_getD (ns : List Int) : (List.range ns.length).map (fun i => ns.getD i 0) = ns := by
  refine List.ext_getElem? fun i => ?_
  rw [List.getElem?_map]
  by_cases h : i < ns.length
  · rw [List.getElem?_range h, List.getElem?_eq_getElem h]
    show some (ns.getD i 0) = _
    rw [List.getD_eq_getElem?_getD, List.getElem?_eq_getElem h]
    rfl
  · rw [List.getElem?_eq_none (by simpa using h), List.getElem?_eq_none (by omega)]
    rfl
/-- as many as the list has exactly if they are distinct -/
def tLenSetN (K : PySem.W.Frag) (ta : TE) : TE := fun σ H Q => ta σ H fun x H1 => ∃ (l : Addr) (ns : List Int), x = .ref l ∧ SqL K H1 l (ns.map V.int) ∧ ns.length ≤ 4000 ∧ ∀ m : Nat, (m = ns.length ↔ ns.Nodup) → Q (.int (m : Int)) H1
theorem pe_lenSetN {X : Cx} {a : Expr} {ta : TE} {p p2 q pos : Pos} (hg : Gl X "len") (hm : X.mg "len" = none) (hg2 : Gl X "set") (hm2 : X.mg "set" = none) (ha : PE X a ta) (hc : X.calm = true := by rfl)
    (one : starEach [a] X.env = (false, eval a X.env) :: starEach [] X.env := by rfl) : PE X (.Call (.Name "len" p) [.Call (.Name "set" p2) [a] [] q] [] pos) (tLenSetN X.K ta) := by
  constructor
  intro pins s σ H Q I h
  refine Call_ (ld_blt I hg hm boot_len (callWith_builtin1 (args_cons ?_ rfl) rfl rfl))
  refine Call_ (ld_blt I hg2 hm2 boot_set (callWith_type1 (args_cons (thn (ha.run pins s σ H _ I h) fun v s1 ⟨x, H1, I1, r1, q1⟩ => args_nil ?_) one) one rfl))
  obtain ⟨l, ns, rfl, hq, few, q1⟩ := q1
  cases r1
  obtain ⟨its, r, pl, _⟩ := I1.list hq
  have size : its.toArray.size = ns.length := by rw [List.size_toArray, ← r.length, List.length_map]
  refine call_set_list (I1.ok.hd hc) pl.isList (by simpa using r.ints) (by rw [size]; unfold scanBound; omega) fun h' tk hS hk => args_nil ?_
  rw [size] at hS
  have I2 : Inv X pins σ H1 { s1 with heap := h', toks := tk } := I1.kept fun b o e => hk b o (Heap.lt_size e) e
  have le := firstMet_length_le (fun i => ns.getD i 0) ns.length
  have same : (firstMet (fun i => ns.getD i 0) ns.length).length = ns.length ↔ ns.Nodup := by
    constructor
    · intro z
      have nd := (firstMet_few _ z).2
      rwa [map_getD] at nd
    · intro z
      refine firstMet_nd _ ?_
      rw [map_getD]
      exact z
  generalize (firstMet (fun i => ns.getD i 0) ns.length).length = m at hS le same
  obtain ⟨o, es, ep, t, ho, hex, hd, _, _, _, hf, hn⟩ := hS
  exact call_len_set ho hex hd hf (by rw [hn]; omega) ⟨.int (m : Int), H1, I2.tok _, ⟨_, by rw [hn]⟩, q1 m same⟩
end L2
namespace RS
open PySem L2 Cmb
/-! ### lists of gaps whose differences are distinct -/
theorem pos_mem {gs : List Int} (h : ∀ g ∈ gs, 1 ≤ g) {k : Nat} (hk : k < gs.length) : 1 ≤ gs[k] := h _ (List.getElem_mem hk)
theorem pre_step {gs : List Int} {k : Nat} (hk : k < gs.length) : pre gs (k + 1) = pre gs k + gs[k] := pre_succ gs (List.getElem?_eq_getElem hk)
theorem pre_lt {gs : List Int} (h : ∀ g ∈ gs, 1 ≤ g) {i j : Nat} (hij : i < j) (hj : j ≤ gs.length) : pre gs i < pre gs j := by
  induction j with
  | zero => omega
  | succ j ih =>
    have s := pre_step (gs := gs) (k := j) (by omega)
    have p := pos_mem h (k := j) (by omega)
    by_cases e : i = j
    · subst e
      omega
    · have := ih (by omega) (by omega)
      omega
theorem pre_inj {gs : List Int} (h : ∀ g ∈ gs, 1 ≤ g) {i j : Nat} (hi : i ≤ gs.length) (hj : j ≤ gs.length) (e : pre gs i = pre gs j) : i = j := by
  rcases Nat.lt_trichotomy i j with z | z | z
  · have := pre_lt h z hj
    omega
  · exact z
  · have := pre_lt h z hi
    omega
def dif2 (gs : List Int) (p : Nat × Nat) : Int := pre gs p.2 - pre gs p.1
/-- the differences, in the order of the pairs -/
def Ds (gs : List Int) : List Int := (pairsOf (gs.length + 1)).map (dif2 gs)
def Spr (gs : List Int) : Prop := (Ds gs).Nodup
theorem nodup_map_iff {α : Type} {l : List α} {f : α → Int} (nd : l.Nodup) : (l.map f).Nodup ↔ ∀ x ∈ l, ∀ y ∈ l, f x = f y → x = y := by
  constructor
  · intro h x hx y hy e
    obtain ⟨i, hi, rfl⟩ := List.getElem_of_mem hx
    obtain ⟨j, hj, rfl⟩ := List.getElem_of_mem hy
    have p := List.pairwise_iff_getElem.mp (List.pairwise_map.mp h)
    rcases Nat.lt_trichotomy i j with z | z | z
    · exact absurd e (p i j hi hj z)
    · subst z
      rfl
    · exact absurd e.symm (p j i hj hi z)
  · intro h
    refine List.pairwise_map.mpr (List.pairwise_iff_getElem.mpr fun i j hi hj hij e => ?_)
    exact List.pairwise_iff_getElem.mp nd i j hi hj hij (h _ (List.getElem_mem hi) _ (List.getElem_mem hj) e)
theorem spr_iff {gs : List Int} : Spr gs ↔ ∀ i j k l, i < j → j ≤ gs.length → k < l → l ≤ gs.length → pre gs j - pre gs i = pre gs l - pre gs k → i = k ∧ j = l := by
  unfold Spr Ds
  rw [nodup_map_iff (pairs_nodup _)]
  constructor
  · intro h i j k l h1 h2 h3 h4 e
    have := h (i, j) (mem_pairs.mpr ⟨h1, by show j < gs.length + 1; omega⟩) (k, l) (mem_pairs.mpr ⟨h3, by show l < gs.length + 1; omega⟩) e
    exact ⟨congrArg Prod.fst this, congrArg Prod.snd this⟩
  · rintro h ⟨i, j⟩ hx ⟨k, l⟩ hy e
    obtain ⟨h1, h2⟩ := mem_pairs.mp hx
    obtain ⟨h3, h4⟩ := mem_pairs.mp hy
    have h1 : i < j := h1
    have h2 : j < gs.length + 1 := h2
    have h3 : k < l := h3
    have h4 : l < gs.length + 1 := h4
    obtain ⟨rfl, rfl⟩ := h i j k l h1 (by omega) h3 (by omega) e
    rfl
theorem mem_Ds {gs : List Int} {d : Int} : d ∈ Ds gs ↔ ∃ i j, i < j ∧ j ≤ gs.length ∧ pre gs j - pre gs i = d := by
  unfold Ds
  rw [List.mem_map]
  constructor
  · rintro ⟨⟨i, j⟩, hp, e⟩
    obtain ⟨h1, h2⟩ := mem_pairs.mp hp
    exact ⟨i, j, h1, by have h2 : j < gs.length + 1 := h2; omega, e⟩
  · rintro ⟨i, j, h1, h2, e⟩
    exact ⟨(i, j), mem_pairs.mpr ⟨h1, by show j < gs.length + 1; omega⟩, e⟩
theorem rows_len {n : Nat} : ∀ k, k ≤ n → (rows n k).length ≤ n * k
  | 0, _ => Nat.zero_le _
  | k + 1, h => by
    show (row n (n - (k + 1)) ++ rows n k).length ≤ _
    have := rows_len (n := n) k (by omega)
    rw [List.length_append, Nat.mul_succ]
    have : (row n (n - (k + 1))).length ≤ n := by
      unfold row
      rw [List.length_map, List.length_range]
      omega
    omega
theorem pairs_len (n : Nat) : (pairsOf n).length ≤ n * n := rows_len n (Nat.le_refl n)
theorem Ds_len (gs : List Int) : (Ds gs).length ≤ (gs.length + 1) * (gs.length + 1) := by
  unfold Ds
  rw [List.length_map]
  exact pairs_len _
theorem pre_snoc {gs : List Int} {g : Int} {k : Nat} (hk : k ≤ gs.length) : pre (gs ++ [g]) k = pre gs k := by
  unfold pre
  rw [List.take_append_of_le_length hk]
theorem pre_last {gs : List Int} {g : Int} : pre (gs ++ [g]) (gs.length + 1) = pre gs gs.length + g := by
  have s := pre_step (gs := gs ++ [g]) (k := gs.length) (by simp)
  rw [s, pre_snoc (Nat.le_refl _)]
  simp
/-- with one more gap -/
theorem spr_snoc {gs : List Int} {g : Int} (pos : ∀ x ∈ gs, 1 ≤ x) : Spr (gs ++ [g]) ↔ Spr gs ∧ ∀ i ≤ gs.length, pre gs gs.length - pre gs i + g ∉ Ds gs := by
  rw [spr_iff, spr_iff]
  have hl : (gs ++ [g]).length = gs.length + 1 := by simp
  rw [hl]
  constructor
  · intro h
    refine ⟨fun i j k l h1 h2 h3 h4 e => h i j k l h1 (by omega) h3 (by omega) ?_, fun i hi hm => ?_⟩
    · rw [pre_snoc (by omega), pre_snoc (by omega), pre_snoc (by omega), pre_snoc (by omega)]
      exact e
    · obtain ⟨k, l, h3, h4, e⟩ := mem_Ds.mp hm
      have := h i (gs.length + 1) k l (by omega) (Nat.le_refl _) h3 (by omega) (by
        rw [pre_last, pre_snoc hi, pre_snoc (by omega), pre_snoc (by omega), e]
        omega)
      omega
  · rintro ⟨h, no⟩ i j k l h1 h2 h3 h4 e
    by_cases hj : j ≤ gs.length <;> by_cases hm : l ≤ gs.length
    · rw [pre_snoc (by omega), pre_snoc (by omega), pre_snoc (by omega), pre_snoc (by omega)] at e
      exact h i j k l h1 hj h3 hm e
    · have el : l = gs.length + 1 := by omega
      subst el
      rw [pre_last, pre_snoc (by omega), pre_snoc (by omega), pre_snoc (by omega)] at e
      exact absurd (mem_Ds.mpr ⟨i, j, h1, hj, by omega⟩) (no k (by omega))
    · have el : j = gs.length + 1 := by omega
      subst el
      rw [pre_last, pre_snoc (by omega), pre_snoc (by omega), pre_snoc (by omega)] at e
      exact absurd (mem_Ds.mpr ⟨k, l, h3, hm, by omega⟩) (no i (by omega))
    · have e1 : j = gs.length + 1 := by omega
      have e2 : l = gs.length + 1 := by omega
      subst e1 e2
      rw [pre_last, pre_snoc (by omega), pre_snoc (by omega)] at e
      exact ⟨pre_inj pos (by omega) (by omega) (by omega), rfl⟩
theorem spr_nil : Spr [] := spr_iff.mpr fun i j k l h1 h2 h3 h4 _ => by
  have h2 : j ≤ 0 := h2
  omega
theorem sum_rev : ∀ l : List Int, l.reverse.sum = l.sum
  | [] => rfl
  | x :: l => by
    rw [List.reverse_cons, List.sum_append, sum_rev l, List.sum_cons]
    show l.sum + (x + 0) = x + l.sum
    omega
theorem pre_rev {gs : List Int} {k : Nat} (hk : k ≤ gs.length) : pre gs.reverse k = pre gs gs.length - pre gs (gs.length - k) := by
  unfold pre
  have e : (gs.take (gs.length - k)).sum + (gs.drop (gs.length - k)).sum = gs.sum := by rw [← List.sum_append, List.take_append_drop]
  rw [List.take_reverse, sum_rev, List.take_length]
  omega
/-- reversed -/
theorem spr_rev {gs : List Int} (h : Spr gs) : Spr gs.reverse := spr_iff.mpr fun i j k l h1 h2 h3 h4 e => by
  rw [List.length_reverse] at h2 h4
  rw [pre_rev (by omega), pre_rev (by omega), pre_rev (by omega), pre_rev (by omega)] at e
  have := spr_iff.mp h (gs.length - j) (gs.length - i) (gs.length - l) (gs.length - k) (by omega) (by omega) (by omega) (by omega) (by omega)
  omega
theorem pre_part {gs : List Int} {f m k : Nat} (hk : k ≤ ((gs.drop f).take m).length) : pre ((gs.drop f).take m) k = pre gs (f + k) - pre gs f := by
  rw [List.length_take, List.length_drop] at hk
  unfold pre
  rw [List.take_take, show min k m = k by omega, List.take_add, List.sum_append]
  omega
/-- a part -/
theorem spr_part {gs : List Int} {f m : Nat} (h : Spr gs) : Spr ((gs.drop f).take m) := spr_iff.mpr fun i j k l h1 h2 h3 h4 e => by
  rw [pre_part (by omega), pre_part (by omega), pre_part (by omega), pre_part (by omega)] at e
  rw [List.length_take, List.length_drop] at h2 h4
  have := spr_iff.mp h (f + i) (f + j) (f + k) (f + l) (by omega) (by omega) (by omega) (by omega) (by omega)
  omega
/-- twice behind one another -/
theorem spr_twice {gs : List Int} : Spr (gs ++ gs) ↔ gs = [] := by
  constructor
  · intro h
    match gs, h with
    | [], _ => rfl
    | g :: r, h =>
      have hl : ((g :: r) ++ (g :: r)).length = (r.length + 1) + (r.length + 1) := by rw [List.length_append, List.length_cons]
      have s1 := pre_step (gs := (g :: r) ++ (g :: r)) (k := 0) (by rw [hl]; omega)
      have s2 := pre_step (gs := (g :: r) ++ (g :: r)) (k := r.length + 1) (by rw [hl]; omega)
      have g1 : ((g :: r) ++ (g :: r))[0]'(by rw [hl]; omega) = g := rfl
      have g2 : ((g :: r) ++ (g :: r))[r.length + 1]'(by rw [hl]; omega) = g := by
        rw [List.getElem_append_right (by simp)]
        simp
      rw [g1] at s1
      rw [g2] at s2
      have s1 : pre ((g :: r) ++ (g :: r)) 1 = _ := s1
      have s2 : pre ((g :: r) ++ (g :: r)) (r.length + 2) = _ := s2
      have := spr_iff.mp h 0 1 (r.length + 1) (r.length + 2) (by omega) (by rw [hl]; omega) (by omega) (by rw [hl]; omega) (by omega)
      omega
  · rintro rfl
    exact spr_nil
/-! the differences row by row -/
def upto (n : Nat) : Nat → List (Nat × Nat)
  | 0 => []
  | k + 1 => upto n k ++ row n k
theorem upto_all {n : Nat} : ∀ k, k ≤ n → upto n k ++ rows n (n - k) = pairsOf n
  | 0, _ => rfl
  | k + 1, h => by
    have ih := upto_all (n := n) k (by omega)
    rw [show n - k = (n - (k + 1)) + 1 by omega] at ih
    have e : rows n ((n - (k + 1)) + 1) = row n k ++ rows n (n - (k + 1)) := by
      show row n (n - ((n - (k + 1)) + 1)) ++ _ = _
      rw [show n - ((n - (k + 1)) + 1) = k by omega]
    rw [e, ← List.append_assoc] at ih
    exact ih
theorem upto_Ds (gs : List Int) : (upto (gs.length + 1) gs.length).map (dif2 gs) = Ds gs := by
  have h := upto_all (n := gs.length + 1) gs.length (by omega)
  rw [show gs.length + 1 - gs.length = 0 + 1 by omega] at h
  have e : rows (gs.length + 1) (0 + 1) = [] := by
    show row (gs.length + 1) (gs.length + 1 - (0 + 1)) ++ [] = []
    unfold row
    rw [show gs.length + 1 - (gs.length + 1 - (0 + 1) + 1) = 0 by omega]
    rfl
  rw [e, List.append_nil] at h
  unfold Ds
  rw [h]
theorem upto_len {n : Nat} : ∀ k, (upto n k).length ≤ n * k
  | 0 => Nat.zero_le _
  | k + 1 => by
    show (upto n k ++ row n k).length ≤ _
    have := upto_len (n := n) k
    rw [List.length_append, Nat.mul_succ]
    have : (row n k).length ≤ n := by
      unfold row
      rw [List.length_map, List.length_range]
      omega
    omega
end RS
namespace RS
open PySem L2 Cmb
section
variable {P : Program} {w : World} {K : PySem.W.Frag} {mg : Str → Option Value} {base : Heap}
/-! ### _differences -/
def spDf : Sp := fun vs H Q _ => ∃ (a : Addr) (gs : List Int), vs = [.ref a] ∧ H a = some (.lst (gs.map V.int)) ∧ gs.length ≤ 20 ∧ ∀ q H', H q = none → Same H H' → H' q = some (.lst ((Ds gs).map V.int)) → Q (.ref q) H'
def dfN : List Str := ["gaps", "offsets", "earlier", "later"]
theorem scDf : FnScope dfN ["gaps"] (defScope s_differences) := ⟨rfl, rfl, rfl, by decide +kernel, rfl, by decide +kernel, by decide +kernel⟩
theorem ok_df {f fS : Addr} {fd fdS : FuncData} (F : Fun K "_differences" "_differences" s_differences f fd) (mC : mg "combinations" = some (.type "itertools.combinations"))
    (GS : FnOk P w K mg base CX0 1 fS fdS ["gaps"] spSums) (bS : Binds K fdS ["gaps"] []) (mS : mg "sums" = some (.ref fS)) (kS : PySem.W.keepIn K (.ref fS) = true) : FnOk P w K mg base CX0 2 f fd ["gaps"] spDf := by
  refine F.ok scDf (fun vs H Q E h => ?_) (fun cdv A outer s H vs Q E hr h => ?_)
  · obtain ⟨a, gs, rfl, _⟩ := h
    rfl
  · obtain ⟨a, gs, rfl, ha, hl, k⟩ := h
    refine ⟨_, (pss_cons (ps_set (i := 1) scDf.nd rfl (Or.inl rfl) (pe_call GS hr rfl mS kS bS .nil pass0 (pa_cons (pv 0) pa_nil))) (pss_one (ps_ret (pe_lc (own := [("earlier", 2), ("later", 3)]) (g := gTup K 2 (gCons (gName 2) (gCons (gName 3) gNil))) (tt := tYes) rfl scDf.nd (Cmb.pi_pairs rfl mC (pa_cons (pv 1) (pa_cons pe_int pa_nil))) (blkOk_by (own := [("earlier", 2), ("later", 3)]) (N := dfN) (sc := defScope s_differences) (by decide +kernel))
        (fun _ _ _ _ _ => pg_tup rfl (pgs_cons (pg_name (i := 2) scDf.nd rfl (Or.inl rfl)) (pgs_cons (pg_name (i := 3) scDf.nd rfl (Or.inl rfl)) pgs_nil))) (fun _ _ _ _ _ => pts_nil) (fun _ _ _ _ _ => (pe_op op_sub (pv 3) (pv 2))))))), ?_⟩
    refine ⟨_, rfl, a, gs, rfl, ha, by omega, fun o H1 ho S1 ho1 => ?_⟩
    have lo : ((offs gs).map V.int).length = gs.length + 1 := by rw [List.length_map, offs_len]
    have pl := Ds_len gs
    have dl : (Ds gs).length = (pairsOf (gs.length + 1)).length := by unfold Ds; rw [List.length_map]
    have pl2 : (gs.length + 1) * (gs.length + 1) ≤ 21 * 21 := Nat.mul_le_mul (by omega) (by omega)
    refine ⟨_, rfl, o, _, rfl, SqL.of ho1, fun D hD => lc_it walk_pairs (fun i H' => Same H1 H' ∧ H' D = some (.lst (((Ds gs).take i).map V.int))) ⟨same_new hD, by rw [upd_same]; rfl⟩ (fun _ _ _ _ => trivial) (fun i x H2 H3 hi z y => ?_) (fun H2 z => ?_)⟩
    · obtain ⟨T, x', y', i1, i2, rfl, hT, rfl, hp, hx, hy⟩ := y
      rw [lo] at hp hi
      obtain ⟨h1, h2⟩ := mem_pairs.mp (List.mem_of_getElem? hp)
      have h1 : i1 < i2 := h1
      have h2 : i2 < gs.length + 1 := h2
      rw [List.getElem?_map, offs_get gs (by omega)] at hx hy
      obtain rfl := (Option.some.inj hx).symm
      obtain rfl := (Option.some.inj hy).symm
      have sT := same_new (o := .tup [V.int (pre gs i1), V.int (pre gs i2)]) hT
      have hD3 := sT _ _ z.2
      have S3 := z.1.trans sT
      refine ⟨T, _, rfl, SqT.of upd_same, rfl, _, _, rfl, _, _, rfl, rfl, rfl, yes_t (iteT ?_)⟩
      refine ⟨_, rfl, _, rfl, _, _, rfl, rfl, _, hD3, ?_, same_app hD S3, ?_⟩
      · rw [List.length_map]
        have := List.length_take_le i (Ds gs)
        exact small1000 (by omega)
      · rw [upd_same]
        have e : (Ds gs)[i]? = some (pre gs i2 - pre gs i1) := by
          unfold Ds
          rw [List.getElem?_map, hp]
          rfl
        rw [List.take_add_one, e, List.map_append]
        rfl
    · rw [lo, ← dl, List.take_length] at z
      exact k D H2 (S1.free hD) (S1.trans z.1) z.2
end
end RS
namespace L2
open PySem PySem.Spec PyProof.Rows
/-- a dict comprehension over a walk -/
theorem dc_it {J : It} {n : Nat} {G : Hp → Prop} {Y : Nat → Hp → V → Hp → Prop} (w : Walk J n G Y) {g : TG} {tt : TT} {tk tv : TE} {vs : List Nat} {σ : St} {H1 : Hp} {D : Addr} {Qd : Hp → Prop} (Pv : Nat → Hp → Prop) (h0 : Pv 0 (upd H1 D (.dK []))) (hG : ∀ i H, i ≤ n → Pv i H → G H)
    (hs : ∀ i x H H', i < n → Pv i H → Y i H x H' → g x (wipe σ vs) H' fun σ2 H2 => wipe σ2 vs = wipe σ vs ∧ tt σ2 H2 fun b H3 =>
      if b = true then tk σ2 H3 fun y H4 => tv σ2 H4 fun z H5 => ∃ kvs k, y = kV k ∧ H5 D = some (.dK kvs) ∧ kvs.length < sizeLine ∧ Pv (i + 1) (upd H5 D (.dK (putK kvs k z))) else Pv (i + 1) H3) (hd : ∀ H, Pv n H → Qd H) :
    ∃ W : Nat → Nat → Hp → Prop, (∃ m, W 0 m (upd H1 D (.dK []))) ∧ ∀ i m H, W i m H →
      (J.stop i H ∧ Qd H) ∨ (J.go i H ∧ ∃ Nx : Hp → Prop, (∀ H', Nx H' → ∃ m', m' < m ∧ W (i + 1) m' H') ∧ ∀ x H', J.yld i H x H' → g x (wipe σ vs) H' fun σ2 H2 => wipe σ2 vs = wipe σ vs ∧ tt σ2 H2 fun b H3 =>
        if b = true then tk σ2 H3 fun y H4 => tv σ2 H4 fun z H5 => ∃ kvs k, y = kV k ∧ H5 D = some (.dK kvs) ∧ kvs.length < sizeLine ∧ Nx (upd H5 D (.dK (putK kvs k z))) else Nx H3) := by
  let W : Nat → Nat → Hp → Prop := fun i m H => i + m = n ∧ Pv i H
  refine ⟨W, ⟨n, Nat.zero_add n, h0⟩, fun i m H ⟨im, p⟩ => ?_⟩
  have q := hG i H (by omega) p
  match m, im with
  | 0, im =>
    have e : i = n := im
    subst e
    exact .inl ⟨w.stops H q, hd H p⟩
  | m + 1, im => exact .inr ⟨w.goes i H (by omega) q, Pv (i + 1), fun H' p' => ⟨m, Nat.lt_succ_self m, by show i + 1 + m = n; omega, p'⟩, fun x H' y => hs i x H H' (by omega) p (w.yields i H x H' (by omega) q y)⟩
end L2
namespace RS
open PySem L2 Cmb
instance {gs : List Int} : Decidable (Spr gs) := inferInstanceAs (Decidable (Ds gs).Nodup)
/-- the ways from the last offset back -/
def ways (gs : List Int) : List Int := (offs gs).map fun o => pre gs gs.length - o
theorem mem_ways {gs : List Int} {x : Int} : x ∈ ways gs ↔ ∃ i, i ≤ gs.length ∧ x = pre gs gs.length - pre gs i := by
  unfold ways offs
  rw [List.map_map, List.mem_map]
  constructor
  · rintro ⟨i, hi, rfl⟩
    have := List.mem_range.mp hi
    exact ⟨i, by omega, rfl⟩
  · rintro ⟨i, hi, rfl⟩
    exact ⟨i, List.mem_range.mpr (by omega), rfl⟩
/-- which numbers are keys -/
def KeysAre (kvs : List (Key × V)) (ds : List Int) : Prop := ∀ i : Int, (valV kvs (Sum.inl i)).isSome = decide (i ∈ ds)
def fitB (ws ds : List Int) (g : Int) : Bool := !ws.any fun x => decide (x + g ∈ ds)
theorem fit_spr {gs : List Int} (pos : ∀ x ∈ gs, 1 ≤ x) (h : Spr gs) (g : Int) : fitB (ways gs) (Ds gs) g = decide (Spr (gs ++ [g])) := by
  unfold fitB
  rw [Bool.eq_iff_iff, Bool.not_eq_true', List.any_eq_false, decide_eq_true_iff, spr_snoc pos]
  constructor
  · intro z
    refine ⟨h, fun i hi hm => ?_⟩
    have := z _ (mem_ways.mpr ⟨i, hi, rfl⟩)
    rw [decide_eq_true_iff] at this
    exact this hm
  · rintro ⟨_, z⟩ x hx
    obtain ⟨i, hi, rfl⟩ := mem_ways.mp hx
    rw [decide_eq_true_iff]
    exact z i hi
section
variable {P : Program} {w : World} {K : PySem.W.Frag} {mg : Str → Option Value} {base : Heap}
/-! ### _ways_back -/
def spWb : Sp := fun vs H Q _ => ∃ (a : Addr) (gs : List Int), vs = [.ref a] ∧ H a = some (.lst (gs.map V.int)) ∧ gs.length ≤ 20 ∧ ∀ q H', H q = none → Same H H' → H' q = some (.lst ((ways gs).map V.int)) → Q (.ref q) H'
def wbN : List Str := ["gaps", "offsets", "offset"]
theorem scWb : FnScope wbN ["gaps"] (defScope s_ways_back) := ⟨rfl, rfl, rfl, by decide +kernel, rfl, by decide +kernel, by decide +kernel⟩
theorem ok_wb {f fS : Addr} {fd fdS : FuncData} (F : Fun K "_ways_back" "_ways_back" s_ways_back f fd)
    (GS : FnOk P w K mg base CX0 1 fS fdS ["gaps"] spSums) (bS : Binds K fdS ["gaps"] []) (mS : mg "sums" = some (.ref fS)) (kS : PySem.W.keepIn K (.ref fS) = true) : FnOk P w K mg base CX0 2 f fd ["gaps"] spWb := by
  refine F.ok scWb (fun vs H Q E h => ?_) (fun cdv A outer s H vs Q E hr h => ?_)
  · obtain ⟨a, gs, rfl, _⟩ := h
    rfl
  · obtain ⟨a, gs, rfl, ha, hl, k⟩ := h
    refine ⟨_, (pss_cons (ps_set (i := 1) scWb.nd rfl (Or.inr rfl) (pe_call GS hr rfl mS kS bS .nil pass0 (pa_cons (pv 0) pa_nil))) (pss_one (ps_ret (pe_lc (own := [("offset", 2)]) (g := gName 2) (tt := tYes) rfl scWb.nd (pi_list (pv 1)) (blkOk_by (own := [("offset", 2)]) (N := wbN) (sc := (defScope s_ways_back)) (by decide +kernel)) (fun _ _ _ _ _ => (pg_name (i := 2) scWb.nd rfl (Or.inl rfl))) (fun _ _ _ _ _ => pts_nil) (fun _ _ _ _ _ => (pe_op op_sub (pe_ix (r := rIxL K) ix_list (pv 1) (pe_un un_neg pe_int) (fun _ _ => rfl)) (pv 2))))))), ?_⟩
    refine ⟨_, rfl, a, gs, rfl, ha, by omega, fun o H1 ho S1 ho1 => ?_⟩
    have lo : (offs gs).length = gs.length + 1 := offs_len gs
    refine ⟨_, rfl, o, rfl, ⟨_, SqL.of ho1⟩, fun D hD => lc_map (a := o) (xs := (offs gs).map V.int) ((ways gs).map V.int) (SqL.of ho1) hD (by unfold ways; simp) (by rw [List.length_map]; omega) (fun i x y H2 Q2 hx hy S2 q => ?_) (fun H2 S2 h2 => k D H2 (S1.free hD) (S1.trans S2) h2)⟩
    obtain ⟨z, hz, rfl⟩ := map_of hx
    obtain ⟨z2, hz2, rfl⟩ := map_of hy
    have e2 : z2 = pre gs gs.length - z := by
      unfold ways at hz2
      rw [List.getElem?_map, hz] at hz2
      exact (Option.some.inj hz2).symm
    subst e2
    have hl2 : ((offs gs).map V.int).length = gs.length + 1 := by rw [List.length_map]; exact lo
    refine ⟨rfl, ?_⟩
    refine ⟨_, rfl, _, rfl, o, _, _, _, rfl, rfl, SqL.of (S2 _ _ ho1), at_back1 (v := .int (pre gs gs.length)) (by rw [hl2]; omega) ?_, _, rfl, _, _, rfl, rfl, q H2 (Same.refl _)⟩
    rw [hl2, List.getElem?_map, show gs.length + 1 - 1 = gs.length by omega, offs_get gs (Nat.le_refl _)]
    rfl
/-! ### _fits -/
def spFt : Sp := fun vs H Q _ => ∃ (g : Int) (wl t : Addr) (ws ds : List Int) (kvs : List (Key × V)), vs = [.int g, .ref wl, .ref t] ∧ H wl = some (.lst (ws.map V.int)) ∧ ws.length ≤ 100 ∧ H t = some (.dK kvs) ∧ KeysAre kvs ds ∧ ∀ H', Same H H' → Q (.bl (fitB ws ds g)) H'
def ftN : List Str := ["gap", "ways", "taken", "way"]
theorem scFt : FnScope ftN ["gap", "ways", "taken"] (defScope s_fits) := ⟨rfl, rfl, rfl, by decide +kernel, rfl, by decide +kernel, by decide +kernel⟩
theorem ok_ft {f C : Addr} {fd : FuncData} (F : Fun K "_fits" "_fits" s_fits f fd) (T : Txt K mg C) : FnOk P w K mg base CX0 1 f fd ["gap", "ways", "taken"] spFt := by
  refine F.ok scFt (fun vs H Q E h => ?_) (fun cdv A outer s H vs Q E hr h => ?_)
  · obtain ⟨g, wl, t, ws, ds, kvs, rfl, _⟩ := h
    rfl
  · obtain ⟨g, wl, t, ws, ds, kvs, rfl, hw, hl, ht, hk, k⟩ := h
    have hu := hu_of hr
    refine ⟨_, (pss_one (ps_ret (pe_not (pe_callB (cr_any rfl) (by rfl) T.any (by decide +kernel) (pa_cons (pe_lc (own := [("way", 3)]) (g := gName 3) (tt := tYes) rfl scFt.nd (pi_list (pv 1)) (blkOk_by (own := [("way", 3)]) (N := ftN) (sc := (defScope s_fits)) (by decide +kernel)) (fun _ _ _ _ _ => (pg_name (i := 3) scFt.nd rfl (Or.inl rfl))) (fun _ _ _ _ _ => pts_nil) (fun _ _ _ _ _ => (pe_cmp (pc_din hu (pe_op op_add (pv 3) (pv 0)) (pv 2))))) pa_nil))))), ?_⟩
    refine ⟨_, rfl, wl, rfl, ⟨_, SqL.of hw⟩, fun D hD => lc_map (a := wl) (xs := ws.map V.int) ((ws.map fun x => decide (x + g ∈ ds)).map V.bl) (SqL.of hw) hD (by simp) (by rw [List.length_map]; omega) (fun i x y H2 Q2 hx hy S2 q => ?_) (fun H2 S2 h2 => ?_)⟩
    · obtain ⟨z, hz, rfl⟩ := map_of hx
      rw [List.getElem?_map, List.getElem?_map, hz] at hy
      obtain rfl := (Option.some.inj hy).symm
      refine ⟨rfl, ?_⟩
      refine ⟨_, rfl, _, rfl, _, _, rfl, rfl, _, rfl, t, _, rfl, DGet.k (k := (Sum.inl (z + g) : Key)) (S2 _ _ ht), ?_⟩
      rw [hk]
      exact q H2 (Same.refl _)
    · refine ⟨D, _, rfl, SqL.of h2, ?_⟩
      refine ⟨_, rfl, ?_⟩
      have e : (!((ws.map fun x => decide (x + g ∈ ds)).any id)) = fitB ws ds g := by
        unfold fitB
        rw [List.any_map]
        rfl
      show Q (.bl (!((ws.map fun x => decide (x + g ∈ ds)).any id))) H2
      rw [e]
      exact k H2 S2
end
end RS
namespace RS
open PySem L2 Cmb
section
variable {P : Program} {w : World} {K : PySem.W.Frag} {mg : Str → Option Value} {base : Heap}
/-! ### is_spread_list -/
def spIl : Sp := fun vs H Q _ => ∃ (a : Addr) (gs : List Int), vs = [.ref a] ∧ H a = some (.lst (gs.map V.int)) ∧ GapsOk gs ∧ gs.length ≤ 12 ∧ ∀ H', Same H H' → Q (.bl (decide (Spr gs))) H'
theorem scIl : FnScope ["gaps", "differences"] ["gaps"] (defScope s_is_spread_list) := ⟨rfl, rfl, rfl, by decide +kernel, rfl, by decide +kernel, by decide +kernel⟩
theorem ok_il {f C fA fD : Addr} {fd fdA fdD : FuncData} (F : Fun K "is_spread_list" "is_spread_list" s_is_spread_list f fd) (T : Txt K mg C) (mM : ∃ t, mg "_MOST_GAPS" = some (.int 12 t))
    (GA : FnOk P w K mg base CX0 2 fA fdA ["value", "most"] spAreGaps) (bA : Binds K fdA ["value", "most"] []) (mA : mg "are_gaps" = some (.ref fA)) (kA : PySem.W.keepIn K (.ref fA) = true)
    (GD : FnOk P w K mg base CX0 2 fD fdD ["gaps"] spDf) (bD : Binds K fdD ["gaps"] []) (mD : mg "_differences" = some (.ref fD)) (kD : PySem.W.keepIn K (.ref fD) = true) : FnOk P w K mg base CX0 3 f fd ["gaps"] spIl := by
  obtain ⟨t12, m12⟩ := mM
  refine F.ok scIl (fun vs H Q E h => ?_) (fun cdv A outer s H vs Q E hr h => ?_)
  · obtain ⟨a, gs, rfl, _⟩ := h
    rfl
  · obtain ⟨a, gs, rfl, ha, ok, hl, k⟩ := h
    refine ⟨_, (pss_cons (ps_if (pt_not (pt_val (pe_call GA hr rfl mA kA bA .nil pass0 (pa_cons (pv 0) (pa_cons (pe_glob (v := .int 12) rfl m12 ⟨_, rfl⟩) pa_nil))))) (pss_one ps_never) pss_nil) (pss_cons (ps_set (i := 1) scIl.nd rfl (Or.inl rfl) (pe_call GD hr rfl mD kD bD .nil pass0 (pa_cons (pv 0) pa_nil))) (pss_one (ps_ret (pe_cmpR op_eq (pe_lenSetN rfl T.len rfl T.set (pv 1)) (pe_callB call_len_seq (by rfl) T.len (by decide +kernel) (pa_cons (pv 1) pa_nil)) (nomark _)))))), ?_⟩
    refine ⟨_, rfl, a, gs, 12, rfl, ha, ok, hl, fun H1 S1 => ⟨true, rfl, iteF ?_⟩⟩
    refine ⟨_, rfl, a, gs, rfl, S1 _ _ ha, by omega, fun q H2 hq S2 hq2 => ?_⟩
    have dl := Ds_len gs
    have d2 : (gs.length + 1) * (gs.length + 1) ≤ 21 * 21 := Nat.mul_le_mul (by omega) (by omega)
    refine ⟨_, rfl, q, Ds gs, rfl, SqL.of hq2, by omega, fun m hm => ?_⟩
    refine ⟨_, rfl, q, _, rfl, .inl (SqL.of hq2), rfl, ?_⟩
    have e : decide (V.int (m : Int) = V.int ((((Ds gs).map V.int).length : Nat) : Int)) = decide (Spr gs) := by
      rw [List.length_map]
      refine decide_eq_decide.mpr ?_
      rw [V.int.injEq]
      exact ⟨fun z => hm.mp (by omega), fun z => by rw [hm.mpr z]⟩
    rw [e]
    exact k H2 (S1.trans S2)
/-! ### the checks, accepted -/
def spCs : Sp := fun vs H Q _ => ∃ (a : Addr) (gs : List Int), vs = [.ref a] ∧ H a = some (.lst (gs.map V.int)) ∧ GapsOk gs ∧ gs.length ≤ 12 ∧ Spr gs ∧ ∀ H', Same H H' → Q .non H'
theorem scCs : FnScope ["gaps"] ["gaps"] (defScope s_check_spread) := ⟨rfl, rfl, rfl, by decide +kernel, rfl, by decide +kernel, by decide +kernel⟩
theorem ok_cs {f fI : Addr} {fd fdI : FuncData} (F : Fun K "_check_spread" "_check_spread" s_check_spread f fd)
    (GI : FnOk P w K mg base CX0 3 fI fdI ["gaps"] spIl) (bI : Binds K fdI ["gaps"] []) (mI : mg "is_spread_list" = some (.ref fI)) (kI : PySem.W.keepIn K (.ref fI) = true) : FnOk P w K mg base CX0 4 f fd ["gaps"] spCs := by
  refine F.ok scCs (fun vs H Q E h => ?_) (fun cdv A outer s H vs Q E hr h => ?_)
  · obtain ⟨a, gs, rfl, _⟩ := h
    rfl
  · obtain ⟨a, gs, rfl, ha, ok, hl, hS, k⟩ := h
    refine ⟨_, (pss_one (ps_if (pt_not (pt_val (pe_call GI hr rfl mI kI bI .nil pass0 (pa_cons (pv 0) pa_nil)))) (pss_one ps_never) pss_nil)), ?_⟩
    refine ⟨_, rfl, a, gs, rfl, ha, ok, hl, fun H1 S1 => ⟨_, rfl, ?_⟩⟩
    rw [decide_eq_true hS]
    exact iteF (k H1 S1)
def spCr : Sp := fun vs H Q _ => ∃ (a : Addr) (gs : List Int) (m : Int), vs = [.ref a, .int m] ∧ H a = some (.lst (gs.map V.int)) ∧ (gs.length : Int) + m ≤ 12 ∧ Q .non H
theorem scCr : FnScope ["gaps", "many"] ["gaps", "many"] (defScope s_check_room) := ⟨rfl, rfl, rfl, by decide +kernel, rfl, by decide +kernel, by decide +kernel⟩
theorem ok_cr {f C : Addr} {fd : FuncData} (F : Fun K "_check_room" "_check_room" s_check_room f fd) (T : Txt K mg C) (mM : ∃ t, mg "_MOST_GAPS" = some (.int 12 t)) : FnOk P w K mg base CX0 1 f fd ["gaps", "many"] spCr := by
  obtain ⟨t12, m12⟩ := mM
  refine F.ok scCr (fun vs H Q E h => ?_) (fun cdv A outer s H vs Q E hr h => ?_)
  · obtain ⟨a, gs, m, rfl, _⟩ := h
    rfl
  · obtain ⟨a, gs, m, rfl, ha, hl, k⟩ := h
    refine ⟨_, (pss_one (ps_if (pt_cmpR op_gt (pe_op op_add (pe_callB call_len_seq (by rfl) T.len (by decide +kernel) (pa_cons (pv 0) pa_nil)) (pv 1)) (pe_glob (v := .int 12) rfl m12 ⟨_, rfl⟩) (nomark _)) (pss_one ps_never) pss_nil)), ?_⟩
    refine ⟨_, rfl, a, _, rfl, .inl (SqL.of ha), _, rfl, _, _, rfl, rfl, _, _, rfl, rfl, _, rfl, iteFb (decide_eq_false ?_) k⟩
    rw [List.length_map]
    omega
def spCbH : Sp := fun vs H Q _ => ∃ (s : Str) (v lo hi : Int), vs = [.str s, .int v, .int lo, .int hi] ∧ lo ≤ v ∧ v ≤ hi ∧ Q .non H
def cbN : List Str := ["part", "value", "low", "high"]
theorem scCb : FnScope cbN cbN (defScope s_check_bound) := ⟨rfl, rfl, rfl, by decide +kernel, rfl, by decide +kernel, by decide +kernel⟩
theorem ok_cbH {f C fI : Addr} {fd fdI : FuncData} (F : Fun K "check_bound" "check_bound" s_check_bound f fd) (T : Txt K mg C) (GI : FnOk P w K mg base CX0 1 fI fdI ["value"] spIsInt) (bI : Binds K fdI ["value"] []) (mI : mg "is_integer" = some (.ref fI)) (kI : PySem.W.keepIn K (.ref fI) = true) : FnOk P w K mg base CX0 2 f fd ["part", "value", "low", "high"] spCbH := by
  refine F.ok scCb (fun vs H Q E h => ?_) (fun cdv A outer s H vs Q E hr h => ?_)
  · obtain ⟨z, v, lo, hi, rfl, _⟩ := h
    rfl
  · obtain ⟨z, v, lo, hi, rfl, h1, h2, k⟩ := h
    refine ⟨_, (pss_cons (ps_if (pt_not (pt_val (pe_call GI hr rfl mI kI bI .nil pass0 (pa_cons (pv 1) pa_nil)))) (pss_one ps_never) pss_nil) (pss_one (ps_if (PW.pt (pw_or (PW.pt (pw_and (pt_cmpR op_notN (pv 2) pe_non (nomark _)) (pw_and1 (pt_cmpR op_lt (pv 1) (pv 2) (nomark _))))) (pw_or1 (PW.pt (pw_and (pt_cmpR op_notN (pv 3) pe_non (nomark _)) (pw_and1 (pt_cmpR op_gt (pv 1) (pv 3) (nomark _)))))))) (pss_one ps_never) pss_nil))), ?_⟩
    refine ⟨_, rfl, v, rfl, true, rfl, iteF ?_⟩
    refine ⟨_, rfl, rfl, _, rfl, iteTb rfl ?_⟩
    refine ⟨_, rfl, _, rfl, _, _, rfl, rfl, _, rfl, iteFb (decide_eq_false (by omega)) ?_⟩
    refine ⟨_, rfl, rfl, _, rfl, iteTb rfl ?_⟩
    exact ⟨_, rfl, _, rfl, _, _, rfl, rfl, _, rfl, iteFb (decide_eq_false (by omega)) k⟩
/-! ### next_gaps -/
/-- the gaps up to m with which a list remains spread -/
def nextG (gs : List Int) (m : Nat) : List Int := ((List.range m).map fun (i : Nat) => (1 : Int) + (i : Int)).filter fun g => decide (Spr (gs ++ [g]))
def spNg : Sp := fun vs H Q _ => ∃ (a : Addr) (gs : List Int) (m : Nat), vs = [.ref a, .int (m : Int)] ∧ H a = some (.lst (gs.map V.int)) ∧ GapsOk gs ∧ gs.length ≤ 11 ∧ Spr gs ∧ 1 ≤ m ∧ m ≤ 2000 ∧ ∀ q H', H q = none → Same H H' → H' q = some (.lst ((nextG gs m).map V.int)) → Q (.ref q) H'
def ngN : List Str := ["gaps", "most", "ways", "taken", "difference", "gap"]
theorem scNg : FnScope ngN ["gaps", "most"] (defScope s_next_gaps) := ⟨rfl, rfl, rfl, by decide +kernel, rfl, by decide +kernel, by decide +kernel⟩
theorem selTo_filter (f : Nat → Int) (p : Int → Bool) : ∀ n, selTo (fun i => if p (f i) then some (.int (f i)) else none) n = (((List.range n).map f).filter p).map V.int
  | 0 => rfl
  | n + 1 => by
    rw [selTo_succ, selTo_filter f p n, List.range_succ, List.map_append, List.filter_append, List.map_append]
    congr 1
    show _ = ([f n].filter p).map V.int
    rw [List.filter_cons]
    cases p (f n) <;> rfl
theorem ok_ng {f C fS fR fB fW fD fF : Addr} {fd fdS fdR fdB fdW fdD fdF : FuncData} (F : Fun K "next_gaps" "next_gaps" s_next_gaps f fd) (T : Txt K mg C) (mW2 : ∃ t, mg "_WIDEST_GAP" = some (.int 2000 t))
    (GS : FnOk P w K mg base CX0 4 fS fdS ["gaps"] spCs) (bS : Binds K fdS ["gaps"] []) (mS : mg "_check_spread" = some (.ref fS)) (kS : PySem.W.keepIn K (.ref fS) = true)
    (GR : FnOk P w K mg base CX0 1 fR fdR ["gaps", "many"] spCr) (bR : Binds K fdR ["gaps", "many"] []) (mR : mg "_check_room" = some (.ref fR)) (kR : PySem.W.keepIn K (.ref fR) = true)
    (GB : FnOk P w K mg base CX0 2 fB fdB ["part", "value", "low", "high"] spCbH) (bB : Binds K fdB ["part", "value", "low", "high"] []) (mB : mg "check_bound" = some (.ref fB)) (kB : PySem.W.keepIn K (.ref fB) = true)
    (GW : FnOk P w K mg base CX0 2 fW fdW ["gaps"] spWb) (bW : Binds K fdW ["gaps"] []) (mW : mg "_ways_back" = some (.ref fW)) (kW : PySem.W.keepIn K (.ref fW) = true)
    (GD : FnOk P w K mg base CX0 2 fD fdD ["gaps"] spDf) (bD : Binds K fdD ["gaps"] []) (mD : mg "_differences" = some (.ref fD)) (kD : PySem.W.keepIn K (.ref fD) = true)
    (GF : FnOk P w K mg base CX0 1 fF fdF ["gap", "ways", "taken"] spFt) (bF : Binds K fdF ["gap", "ways", "taken"] []) (mF : mg "_fits" = some (.ref fF)) (kF : PySem.W.keepIn K (.ref fF) = true) : FnOk P w K mg base CX0 5 f fd ["gaps", "most"] spNg := by
  obtain ⟨tw, mw⟩ := mW2
  refine F.ok scNg (fun vs H Q E h => ?_) (fun cdv A outer s H vs Q E hr h => ?_)
  · obtain ⟨a, gs, m, rfl, _⟩ := h
    rfl
  · obtain ⟨a, gs, m, rfl, ha, ok, hl, hS, m1, m2, k⟩ := h
    have hr1 := hr.mono (show 1 ≤ 4 by decide)
    have hr2 := hr.mono (show 2 ≤ 4 by decide)
    refine ⟨_, (pss_cons (ps_expr (pe_call GS hr rfl mS kS bS .nil pass0 (pa_cons (pv 0) pa_nil))) (pss_cons (ps_expr (pe_call GR hr1 rfl mR kR bR .nil pass0 (pa_cons (pv 0) (pa_cons pe_int pa_nil)))) (pss_cons (ps_expr (pe_call GB hr2 rfl mB kB bB .nil pass0 (pa_cons pe_str (pa_cons (pv 1) (pa_cons pe_int (pa_cons (pe_glob (v := .int 2000) rfl mw ⟨_, rfl⟩) pa_nil)))))) (pss_cons (ps_set (i := 2) scNg.nd rfl (Or.inr rfl) (pe_call GW hr2 rfl mW kW bW .nil pass0 (pa_cons (pv 0) pa_nil))) (pss_cons (ps_set (i := 3) scNg.nd rfl (Or.inr rfl) (pe_dc (own := [("difference", 4)]) (g := gName 4) (tt := tYes) rfl scNg.nd (pi_list (pe_call GD hr2 rfl mD kD bD .nil pass0 (pa_cons (pv 0) pa_nil))) (blkOk_by (own := [("difference", 4)]) (N := ngN) (sc := defScope s_next_gaps) (by decide +kernel)) (fun _ _ _ _ _ => (pg_name (i := 4) scNg.nd rfl (Or.inl rfl))) (fun _ _ _ _ _ => pts_nil) (fun _ _ _ _ _ => pv 4) (fun _ _ _ _ _ => pe_bl))) (pss_one (ps_ret (pe_lc (own := [("gap", 5)]) (g := gName 5) rfl scNg.nd (pi_range2 rfl T.range (pa_cons pe_int (pa_cons (pe_op op_add (pv 1) pe_int) pa_nil))) (blkOk_by (own := [("gap", 5)]) (N := ngN) (sc := (defScope s_next_gaps)) (by decide +kernel)) (fun _ _ _ _ _ => (pg_name (i := 5) scNg.nd rfl (Or.inl rfl))) (fun _ _ _ _ _ => pts_one (pt_val (pe_call GF hr1 rfl mF kF bF .nil pass0 (pa_cons (pv 5) (pa_cons (pv 2) (pa_cons (pv 3) pa_nil)))))) (fun _ _ _ _ _ => (pv 5)))))))))), ?_⟩
    refine ⟨_, rfl, a, gs, rfl, ha, ok, by omega, hS, fun H1 S1 => ?_⟩
    have ha1 := S1 _ _ ha
    refine ⟨_, rfl, a, gs, 1, rfl, ha1, by omega, ?_⟩
    refine ⟨_, rfl, _, (m : Int), 1, 2000, rfl, by omega, by omega, ?_⟩
    refine ⟨_, rfl, a, gs, rfl, ha1, by omega, fun wl H2 hw S2 hw2 => ?_⟩
    have ha2 := S2 _ _ ha1
    refine ⟨_, rfl, a, gs, rfl, ha2, by omega, fun d H3 hd S3 hd3 => ?_⟩
    have hw3 := S3 _ _ hw2
    have dl := Ds_len gs
    have d2 : (gs.length + 1) * (gs.length + 1) ≤ 12 * 12 := Nat.mul_le_mul (by omega) (by omega)
    have S13 := (S1.trans S2).trans S3
    refine ⟨d, rfl, ⟨_, SqL.of hd3⟩, fun D hD => dc_it walk_list (fun i H' => Same H3 H' ∧ ∃ kvs, H' D = some (.dK kvs) ∧ kvs.length ≤ i ∧ KeysAre kvs ((Ds gs).take i)) ⟨same_new hD, [], upd_same, Nat.le_refl _, fun i => by simp [valV]⟩ (fun i H' _ z => SqL.of (z.1 _ _ hd3)) (fun i x H4 H5 hi z y => ?_) (fun H4 z => ?_)⟩
    · obtain ⟨rfl, hx⟩ := y
      obtain ⟨e, he, rfl⟩ := map_of hx
      obtain ⟨S4, kvs, hk, hkl, hkeys⟩ := z
      rw [List.length_map] at hi
      refine ⟨rfl, yes_t (iteT ?_)⟩
      refine ⟨_, rfl, kvs, Sum.inl e, rfl, hk, small_line (by omega), same_app hD S4, _, upd_same, ?_, fun i' => ?_⟩
      · have := length_putK kvs (Sum.inl e : Key) (V.bl true)
        omega
      · rw [valV_put, List.take_add_one, he]
        by_cases ee : i' = e
        · subst ee
          rw [if_pos rfl]
          simp
        · rw [if_neg (fun q => ee (Sum.inl.inj q)), hkeys]
          simp [ee]
    obtain ⟨S4, kvs, hk, hkl, hkeys⟩ := z
    rw [List.length_map, List.take_length] at hkeys
    have hw4 := S4 _ _ hw3
    have S14 := S13.trans S4
    have hmr : (((m : Nat) : Int) + 1 - 1).toNat = m := by omega
    refine ⟨_, rfl, _, _, rfl, rfl, ?_⟩
    refine ⟨_, _, rfl, ⟨by omega, by omega, by omega, by omega⟩, fun D2 hD2 => ?_⟩
    have hsel := selTo_filter (fun i => (1 : Int) + (i : Int)) (fun g => decide (Spr (gs ++ [g]))) m
    have pos : ∀ x ∈ gs, 1 ≤ x := fun x hx => (ok.2 x hx).1
    refine lc_selR (lo := 1) (n := (((m : Nat) : Int) + 1 - 1).toNat) (fun i => if decide (Spr (gs ++ [(1 : Int) + (i : Int)])) then some (.int ((1 : Int) + (i : Int))) else none) hD2 (by omega) (fun i H5 Q5 hi S5 q => ?_) (fun H5 S5 h5 => ?_)
    · refine ⟨rfl, ?_⟩
      refine ⟨_, rfl, _, rfl, _, rfl, (1 : Int) + (i : Int), wl, D, ways gs, Ds gs, kvs, rfl, S5 _ _ hw4, by unfold ways; rw [List.length_map, offs_len]; omega, S5 _ _ hk, hkeys, fun H6 S6 => ⟨_, rfl, ?_⟩⟩
      have q6 := q H6 S6
      rw [fit_spr pos hS]
      cases hb : decide (Spr (gs ++ [(1 : Int) + (i : Int)])) with
      | true =>
        rw [hb, if_pos rfl] at q6
        exact iteT ⟨_, rfl, q6⟩
      | false =>
        rw [hb, if_neg (by simp)] at q6
        exact iteF q6
    · rw [hmr, hsel] at h5
      exact k D2 H5 (S14.free hD2) (S14.trans S5) h5
end
end RS
namespace L2
open PySem PySem.Spec PyProof.Rows
theorem pe_sliceLK {X : Cx} (K : PySem.W.Frag) (hK : X.K = K) {e : Expr} {te : TE} {lo hi : Option Expr} {tl th : TO} {p2 pos : Pos} (he : PE X e te) (hl : PO X lo tl) (hu : PO X hi th) : PE X (.Subscript e (.Slice lo hi none p2) pos) (tSl (rSlL K) te tl th) := by
  subst hK
  exact pe_slice sl_list he hl hu
end L2
namespace RS
open PySem L2 Cmb
theorem sum_part (gs : List Int) (f m : Nat) : ((gs.drop f).take m).sum = pre gs (f + m) - pre gs f := by
  unfold pre
  rw [List.take_add, List.sum_append]
  omega
section
variable {P : Program} {w : World} {K : PySem.W.Frag} {mg : Str → Option Value} {base : Heap}
/-! ### _law_is_spread -/
def spIs : Sp := fun vs H Q _ => ∃ (a : Addr) (gs : List Int), vs = [.ref a] ∧ H a = some (.lst (gs.map V.int)) ∧ gs.length ≤ 20 ∧ ∀ H', Same H H' → Q (.bl (decide (Spr gs))) H'
def isN : List Str := ["_law_gaps_here", "_law_found", "_law_first", "_law_last"]
theorem scIs : FnScope isN ["_law_gaps_here"] (defScope s_law_is_spread) := ⟨rfl, rfl, rfl, by decide +kernel, rfl, by decide +kernel, by decide +kernel⟩
theorem ok_is {f C : Addr} {fd : FuncData} (F : Fun K "_law_is_spread" "_law_is_spread" s_law_is_spread f fd) (T : Txt K mg C) : FnOk P w K mg base CX0 1 f fd ["_law_gaps_here"] spIs := by
  refine F.ok scIs (fun vs H Q E h => ?_) (fun cdv A outer s H vs Q E hr h => ?_)
  · obtain ⟨a, gs, rfl, _⟩ := h
    rfl
  · obtain ⟨a, gs, rfl, ha, hl, k⟩ := h
    refine ⟨_, (pss_cons (ps_set (i := 1) scIs.nd rfl (Or.inl rfl) (pe_lst pa_nil)) (pss_cons (ps_for PassesOwn.never rfl (pi_range1 rfl T.range (pa_cons (pe_callB call_len_seq (by rfl) T.len (by decide +kernel) (pa_cons (pv 0) pa_nil)) pa_nil)) (pg_name (i := 2) scIs.nd rfl (Or.inr rfl)) (pss_one (ps_set (i := 1) scIs.nd rfl (Or.inl rfl) (pe_op op_cat (pv 1) (pe_lc (own := [("_law_last", 3)]) (g := gName 3) (tt := tYes) rfl scIs.nd (pi_range2 rfl T.range (pa_cons (pv 2) (pa_cons (pe_callB call_len_seq (by rfl) T.len (by decide +kernel) (pa_cons (pv 0) pa_nil)) pa_nil))) (blkOk_by (own := [("_law_last", 3)]) (N := isN) (sc := (defScope s_law_is_spread)) (by decide +kernel)) (fun _ _ _ _ _ => (pg_name (i := 3) scIs.nd rfl (Or.inl rfl))) (fun _ _ _ _ _ => pts_nil) (fun _ _ _ _ _ => (pe_callB (r := rSum K) (cr_sum rfl) (by rfl) T.sum (by decide +kernel) (pa_cons (pe_sliceLK K (by rfl) (pv 0) (po_some (pv 2)) (po_some (pe_op op_add (pv 3) pe_int))) pa_nil)))))))) (pss_one (ps_ret (pe_cmpR op_eq (pe_callB call_len_seq (by rfl) T.len (by decide +kernel) (pa_cons (pv 1) pa_nil)) (pe_lenSetN rfl T.len rfl T.set (pv 1)) (nomark _)))))), ?_⟩
    have lg : ((gs.map V.int).length) = gs.length := List.length_map ..
    refine ⟨(by show 0 ≤ sizeLine; decide), fun q0 hq0 => ?_⟩
    have S0 := same_new (o := .lst []) hq0
    have ha0 := S0 _ _ ha
    refine ⟨_, rfl, a, _, rfl, .inl (SqL.of ha0), ?_⟩
    have hn : ((((gs.map V.int).length : Nat) : Int)).toNat = gs.length := by rw [lg, Int.toNat_natCast]
    refine ⟨_, rfl, by rw [lg]; omega, by rw [lg]; omega, for_range (lo := 0) (n := ((((gs.map V.int).length : Nat) : Int)).toNat) (fun i σ H' => ∃ (v2 : Option V) (q : Addr), σ = [some (.ref a), some (.ref q), v2, none] ∧ Same H H' ∧ H' q = some (.lst (((upto (gs.length + 1) i).map (dif2 gs)).map V.int)))
      ⟨none, q0, rfl, S0, upd_same⟩ ?_ ?_⟩
    · rintro i σ H1 hi ⟨v2, q, rfl, S1, hq⟩
      rw [hn] at hi
      have ha1 := S1 _ _ ha
      have hn2 : ((((gs.map V.int).length : Nat) : Int) - (0 + (i : Int))).toNat = gs.length - i := by
        rw [lg]
        omega
      refine ⟨_, rfl, _, rfl, _, rfl, a, _, rfl, .inl (SqL.of ha1), ?_⟩
      refine ⟨_, _, rfl, ⟨by omega, by omega, by rw [lg]; omega, by rw [lg]; omega⟩, fun D hD => lc_mapR (lo := 0 + (i : Int)) (n := ((((gs.map V.int).length : Nat) : Int) - (0 + (i : Int))).toNat) (((row (gs.length + 1) i).map (dif2 gs)).map V.int) hD (by unfold row; rw [hn2, List.length_map, List.length_map, List.length_map, List.length_range]; omega) (by rw [hn2]; omega) (fun j y H2 Q2 hj hy S2 kq => ?_) (fun H2 S2 h2 => ?_)⟩
      · rw [hn2] at hj
        have ey : y = .int (pre gs (i + 1 + j) - pre gs i) := by
          unfold row at hy
          rw [List.getElem?_map, List.getElem?_map, List.getElem?_map, List.getElem?_range (by omega)] at hy
          exact (Option.some.inj hy).symm
        subst ey
        refine ⟨rfl, ?_⟩
        refine ⟨_, rfl, _, rfl, _, rfl, _, rfl, _, _, rfl, rfl, _, rfl, ?_⟩
        refine ⟨a, _, rfl, SqL.of (S2 _ _ ha1), fun p hp => ?_⟩
        have ec : cutV (gs.map V.int) (some (0 + (i : Int))) (some (0 + (i : Int) + (j : Int) + 1)) = ((gs.drop i).take (j + 1)).map V.int := by
          rw [show (0 + (i : Int)) = ((i : Nat) : Int) by omega, show ((i : Nat) : Int) + (j : Int) + 1 = ((i + j + 1 : Nat) : Int) by omega, cut_mid, List.map_take, List.map_drop, show i + j + 1 - i = j + 1 by omega]
        rw [ec]
        refine ⟨p, (gs.drop i).take (j + 1), rfl, SqL.of upd_same, ?_⟩
        rw [sum_part, show i + (j + 1) = i + 1 + j by omega]
        exact kq _ (same_new hp)
      · have S12 := S1.trans S2
        have hq2 := S2 _ _ hq
        have ul := upto_len (n := gs.length + 1) i
        have u2 : (gs.length + 1) * i ≤ 21 * 20 := Nat.mul_le_mul (by omega) (by omega)
        have rl : (row (gs.length + 1) i).length ≤ 21 := by
          unfold row
          rw [List.length_map, List.length_range]
          omega
        refine ⟨q, D, _, _, rfl, rfl, hq2, h2, ?_, fun q3 hq3 => ?_⟩
        · rw [List.length_map, List.length_map, List.length_map, List.length_map]
          exact Nat.le_of_lt (small1000 (by omega))
        · refine ⟨_, q3, rfl, S12.trans (same_new hq3), ?_⟩
          rw [upd_same, ← List.map_append, ← List.map_append]
          rfl
    · rintro σ H1 ⟨v2, q, rfl, S1, hq⟩
      rw [hn, upto_Ds] at hq
      have dl := Ds_len gs
      have d2 : (gs.length + 1) * (gs.length + 1) ≤ 21 * 21 := Nat.mul_le_mul (by omega) (by omega)
      refine ⟨_, rfl, q, _, rfl, .inl (SqL.of hq), _, rfl, q, Ds gs, rfl, SqL.of hq, by omega, fun m hm => ⟨rfl, ?_⟩⟩
      have e : decide (V.int ((((Ds gs).map V.int).length : Nat) : Int) = V.int (m : Int)) = decide (Spr gs) := by
        rw [List.length_map]
        refine decide_eq_decide.mpr ?_
        rw [V.int.injEq]
        exact ⟨fun z => hm.mp (by omega), fun z => by rw [hm.mpr z]⟩
      rw [e]
      exact k H1 S1
end
end RS
/-! ### a list against the empty list; len in a comprehension's block -/
namespace L2
open PySem PySem.Spec PyProof.Rows
section
variable {X : Cx}
/-- a list, held against the empty list -/
def rNilB (K : PySem.W.Frag) (f : Bool → Bool) : R2 := fun x y H Q => ∃ a b xs, x = .ref a ∧ y = .ref b ∧ SqL K H a xs ∧ SqL K H b [] ∧ Q (.bl (f xs.isEmpty)) H
theorem op_eqNil (hu : X.A.units + 64 < cLine) : OpR X (compareOp .Eq) (rNilB X.K id) := by
  intro pins s σ H x y v u Q I rx ry h
  obtain ⟨a, b, xs, rfl, rfl, ha, hb, q⟩ := h
  cases xs with
  | nil => exact op_eqD hu pins s σ H _ _ v u Q I rx ry ⟨.list [], .list [], .lst ha .nil, .lst hb .nil, rfl, rfl, q⟩
  | cons z r =>
    cases rx
    cases ry
    obtain ⟨its, r1, h1, _⟩ := I.list ha
    obtain ⟨its2, r2, h2, _⟩ := I.list hb
    cases r2
    have e1 := r1.length
    refine SeqAt.eq_list_lengthsAt h1.isList h2.isList ?_ (by omega) ⟨.bl _, H, I, rfl, q⟩
    rw [List.size_toArray, ← e1]
    rfl
theorem op_neNil (hu : X.A.units + 64 < cLine) : OpR X (compareOp .NotEq) (rNilB X.K not) := by
  intro pins s σ H x y v u Q I rx ry h
  obtain ⟨a, b, xs, rfl, rfl, ha, hb, q⟩ := h
  cases xs with
  | nil => exact op_neD hu pins s σ H _ _ v u Q I rx ry ⟨.list [], .list [], .lst ha .nil, .lst hb .nil, rfl, rfl, q⟩
  | cons z r =>
    cases rx
    cases ry
    obtain ⟨its, r1, h1, _⟩ := I.list ha
    obtain ⟨its2, r2, h2, _⟩ := I.list hb
    cases r2
    have e1 := r1.length
    refine SeqAt.RcNeAt.lists_lengths h1.isList h2.isList ?_ (by omega) X.prog X.w _ _ ⟨.bl _, H, I, rfl, q⟩
    rw [List.size_toArray, ← e1]
    rfl
def rLenK (K : PySem.W.Frag) : List V → Hp → VK → Prop := fun xs H Q => ∃ p ys, xs = [V.ref p] ∧ (SqL K H p ys ∨ SqT K H p ys) ∧ Q (.int (ys.length : Int)) H
theorem pe_lenK {e : Expr} {te : TE} {p pos : Pos} (K : PySem.W.Frag) (hK : X.K = K) (hg : Gl X "len") (hm : X.mg "len" = none) (ha : PE X e te) (hs : starEach [e] X.env = (false, eval e X.env) :: starEach [] X.env := by rfl) : PE X (.Call (.Name "len" p) [e] [] pos) (tCB (rLenK K) (tCons te tNil)) := by
  subst hK
  exact pe_callB (r := rLenK X.K) call_len_seq hg hm (by decide +kernel) (pa_cons ha pa_nil hs) (he := hs)
end
end L2
namespace RS
open PySem L2 PySem.Spec PyProof.Rows
/-! ### a def of the module called with keywords alone: f(k = v) -/
def tDefK (n : Nat) (sp : Sp) (gV : List V → List V → List V) (E : XK) (tk : TA) : TE := fun σ H Q => tk σ H fun zs H2 => zs.length = n ∧ sp (gV [] zs) H2 Q E
theorem pe_defK0 {X : Cx} {CX : CXT} {k : Nat} {f : Addr} {fd : FuncData} {x : Str} {p pos : Pos} {ps ks : List Str} {sp : Sp} {E : XK} {kws : List Keyword} {tk : TA} {g : List Value → List Value → List Value} {gV : List V → List V → List V}
    (F : FnOk X.prog X.w X.K X.mg X.base CX k f fd ps sp) (hr : Room k X.A) (hg : Gl X x) (hm : X.mg x = some (.ref f)) (hf : PySem.W.keepIn X.K (.ref f) = true) (hb : KBn X.K fd ps 0 ks g gV) (hx : Passes CX X E) (hkw : PK X kws tk)
    (a1 : (backToKw pos (keywordEach kws X.env)).all (·.1.isSome) = true := by rfl) (a2 : (backToKw pos (keywordEach kws X.env)).filterMap (·.1) = ks := by rfl) (a3 : (x == ("__debug__" : Str)) = false := by decide)
    (a4 : ((backTo pos (starEach [] X.env)).any (·.1) || (backToKw pos (keywordEach kws X.env)).any (·.1.isNone)) = false := by rfl) :
    PE X (.Call (.Name x p) [] kws pos) (tDefK ks.length sp gV E tk) := by
  constructor
  intro pins s σ H Q I h
  refine wpAny_Call_Name_kw (ld_glob I hg hm (PySem.W.callWith_KW0 (first := []) (h₀ := X.base) I.ok.mod.kin hf a1 (thn (hkw.run pos pins s σ H _ I h) ?_) a4) a3)
  intro ws s2 ⟨zs, H2, I2, rz, l2, q2⟩
  refine ⟨I2.kIn, ?_⟩
  rw [a2]
  exact run_fnN (us := []) (vs := []) F hr hb hx I2 .nil rz rfl l2 q2
/-- how a def of one parameter binds it by its name -/
theorem kb_one {K : PySem.W.Frag} {x qual : Str} {st : Stmt} {f : Addr} {fd : FuncData} {ps ks : List Str} (F : Fun K x qual st f fd)
    (h : ∀ (kV doc pm : Value) (an : Option Addr) (cdv ct v : Value), bindArgs (PySem.W.fnOf x qual (defArgs st) (defBody st) (defScope st) .none kV doc pm an cdv ct) ⟨[], ks.zip [v]⟩ = pure (ps.zip [v])) (hk : ks.length = 1) :
    KBn K fd ps 0 ks (fun us ws => us ++ ws) (fun vs zs => vs ++ zs) := by
  obtain ⟨oc, od, kV, doc, pm, an, cdv, ct, osl, rfl, lk, hcd⟩ := F.ex
  refine ⟨fun s us ws _ l1 l2 => .of_eq ?_, fun r1 r2 => r1.append r2⟩
  rw [hk] at l2
  match us, ws, l1, l2 with
  | [], [v], _, _ => exact h kV doc pm an cdv ct v
end RS
namespace RS
open PySem L2
/-! ### two arguments by name, in the other order (k20) -/
theorem kb_swap {K : PySem.W.Frag} {x qual : Str} {st : Stmt} {f : Addr} {fd : FuncData} {ps ks : List Str} (F : Fun K x qual st f fd)
    (h : ∀ (kV doc pm : Value) (an : Option Addr) (cdv ct v1 v2 : Value), bindArgs (PySem.W.fnOf x qual (defArgs st) (defBody st) (defScope st) .none kV doc pm an cdv ct) ⟨[], ks.zip [v1, v2]⟩ = pure (ps.zip [v2, v1])) (hk : ks.length = 2) :
    KBn K fd ps 0 ks (fun us ws => us ++ ws.reverse) (fun vs zs => vs ++ zs.reverse) := by
  obtain ⟨oc, od, kV, doc, pm, an, cdv, ct, osl, rfl, lk, hcd⟩ := F.ex
  refine ⟨fun s us ws _ l1 l2 => .of_eq ?_, fun r1 r2 => r1.append r2.reverse⟩
  rw [hk] at l2
  match us, ws, l1, l2 with
  | [], [v1, v2], _, _ => exact h kV doc pm an cdv ct v1 v2
end RS
namespace RS
open PySem L2
/-! ### lists of ints as data -/
theorem ints_dp {K : PySem.W.Frag} {H : Hp} : ∀ ns : List Int, DpAll K H (ns.map V.int) (ns.map PyData.int)
  | [] => .nil
  | n :: r => .cons (.int n) (ints_dp r)
theorem list_dp {K : PySem.W.Frag} {H : Hp} {a : Addr} {ns : List Int} (h : SqL K H a (ns.map V.int)) : Dp K H (.ref a) (.list (ns.map PyData.int)) := .lst h (ints_dp ns)
theorem list_eqv (ns ms : List Int) : PyData.eqv (.list (ns.map PyData.int)) (.list (ms.map PyData.int)) = decide (ns = ms) := PySem.W.ked_eqvAll ns ms
end RS
/-! ### name = {k: v for ..}, the name a local -/
namespace L2
open PySem PySem.Spec PyProof.Rows
theorem sw_dict {kx vx : Expr} {cs : List Comprehension} {scope : Scope} {pos py : Pos} {y : Str} {line : Nat} {env : Env} (fn : env.scope.kind = .function) (loc : env.scope.names.lookup y = some .local) (row : (py.line == pos.line) = true)
    (own : (scope.names.any fun (n, k) => n == y && (k == .local || k == .cell)) = false) : swapsWith (.DictComp kx vx cs scope pos) (some (.Name y py)) line env = pure true := by
  have a : env.kindOf y = some .local := loc
  have b : env.blockKind = .function := by
    unfold Env.blockKind
    rw [fn]
    rfl
  unfold swapsWith
  simp only [a, b, own, Expr.pos, row]
  rfl
theorem ps_setDc {X : Cx} {i : Nat} {y : Str} {py pos spos : Pos} {kx vx tg iter : Expr} {ifs : List Expr} {scope : Scope} {own : List (Str × Nat)} {wi : TI} {g : TG} {tt : TT} {tk tv : TE} (hc : X.calm = true) (hN : X.N.Nodup) (iy : X.N[i]? = some y) (ly : X.env.scope.names.lookup y = some .local)
    (sw : swapsWith (.DictComp kx vx [⟨tg, iter, ifs, 0⟩] scope pos) (some (.Name y py)) spos.line X.env = pure true) (hi : PI X tg iter wi) (ok : BlkOk X.N X.env.scope scope own)
    (hg : ∀ (s : Shared) (H : Hp) (C : Addr) (cl : List (Str × Addr)) (fp : List Addr), PG (X.blk s H scope (compEnvC scope cl C X.env) fp) tg g) (ht : ∀ (s : Shared) (H : Hp) (C : Addr) (cl : List (Str × Addr)) (fp : List Addr), PTs (X.blk s H scope (compEnvC scope cl C X.env) fp) ifs tt)
    (hk : ∀ (s : Shared) (H : Hp) (C : Addr) (cl : List (Str × Addr)) (fp : List Addr), PE (X.blk s H scope (compEnvC scope cl C X.env) fp) kx tk)
    (he : ∀ (s : Shared) (H : Hp) (C : Addr) (cl : List (Str × Addr)) (fp : List Addr), PE (X.blk s H scope (compEnvC scope cl C X.env) fp) vx tv) (hs : ∀ x, foldedSetIterable iter X.env x = pure x := by intro _; rfl) :
    PS X (.Assign [.Name y py] (.DictComp kx vx [⟨tg, iter, ifs, 0⟩] scope pos) spos) (tAsg (tDc wi g tt tk tv (own.map (·.2))) (gName i)) := by
  constructor
  intro pins s σ H D I h
  have told : tDc wi g tt tk tv (own.map (·.2)) σ H (fun x H1 => gName i x σ H1 D.nx) := h
  rw [exec_Assign_Name_used _ _ _ _ sw]
  refine wpAny_bind (wpAny_standAt (wpAny_bind ?_))
  refine wpAny_bind (thn (show wpAny _ X.A (comprehension (.DictComp kx vx [⟨tg, iter, ifs, 0⟩] scope pos) scope X.env (firstIterPos [⟨tg, iter, ifs, 0⟩] pos) newDict false (eval iter X.env) (some (assign (.Name y py) X.env))) (fun _ s' => SP X pins D .next s') _ s from
    dc_core hc hN I hi ok hg ht hk he hs told fun L C s' m H' I' q ns fo => ?_) fun _ _ z => wpAny_pure (wpAny_pure z))
  obtain ⟨f0, f1, f2, f3, f4, f5⟩ := fo
  show wpAny _ _ (assign (.Name y py) X.env (.ref L)) _ _ _
  refine wpAny_assign_Name (store_ok2 (v := V.ref L) I' hN iy (.inl ly) rfl (fun s2 I2 ⟨a, sb, ha⟩ => ?_) (.inr ly))
  have apart : C ≠ a := ha.elim (fun z => z ▸ f1) fun z e => f4 y a z e.symm
  exact ⟨m, ns.sameBut sb apart, fun h3 sb3 => ⟨_, H', I2.turned (t' := s2.toks) (fun b o hb e => (sb3.2 b hb).trans e) f0 f1 f3 f4 f5, q⟩⟩
end L2
namespace RS
open PySem L2 Cmb
/-! ### the least gap -/
def IsLeast (gs : List Int) (g : Int) : Prop := 1 ≤ g ∧ Spr (gs ++ [g]) ∧ ∀ h, 1 ≤ h → h < g → ¬ Spr (gs ++ [h])
theorem IsLeast.one {gs : List Int} {g h : Int} (a : IsLeast gs g) (b : IsLeast gs h) : g = h := by
  rcases Int.lt_trichotomy g h with z | z | z
  · exact absurd a.2.1 (b.2.2 g a.1 z)
  · exact z
  · exact absurd b.2.1 (a.2.2 h b.1 z)
theorem few_in : ∀ {l m : List Int}, l.Nodup → (∀ x ∈ l, x ∈ m) → l.length ≤ m.length
  | [], _, _, _ => Nat.zero_le _
  | x :: l, m, h, hs => by
    obtain ⟨h1, h2⟩ := List.nodup_cons.mp h
    have ih := few_in (l := l) (m := m.erase x) h2 fun y hy => by
      have hne : y ≠ x := fun e => h1 (e ▸ hy)
      exact (List.mem_erase_of_ne hne).mpr (hs y (List.mem_cons_of_mem _ hy))
    have hm := hs x (List.mem_cons_self ..)
    rw [List.length_erase_of_mem hm] at ih
    have : 0 < m.length := List.length_pos_of_mem hm
    rw [List.length_cons]
    omega
theorem flat_len {l m : List Int} {f : Int → Int → Int} : (l.flatMap fun d => m.map (f d)).length = l.length * m.length := by
  induction l with
  | nil => simp
  | cons x l ih =>
    rw [List.flatMap_cons, List.length_append, ih, List.length_map, List.length_cons, Nat.succ_mul, Nat.add_comm]
/-- some gap up to a bound may follow -/
theorem some_fits {gs : List Int} (pos : ∀ x ∈ gs, 1 ≤ x) (h : Spr gs) (hl : gs.length ≤ 12) : ∃ g : Nat, 1 ≤ g ∧ g ≤ 2198 ∧ Spr (gs ++ [(g : Int)]) := by
  refine Classical.byContradiction fun no => ?_
  have bad : ∀ g : Nat, 1 ≤ g → g ≤ 2198 → ∃ i, i ≤ gs.length ∧ pre gs gs.length - pre gs i + (g : Int) ∈ Ds gs := fun g h1 h2 => by
    refine Classical.byContradiction fun z => no ⟨g, h1, h2, (spr_snoc pos).mpr ⟨h, fun i hi hm => z ⟨i, hi, hm⟩⟩⟩
  have sub : ∀ x ∈ (List.range 2198).map (fun i => ((i + 1 : Nat) : Int)), x ∈ (Ds gs).flatMap fun d => (ways gs).map fun w => d - w := by
    intro x hx
    obtain ⟨i, hi, rfl⟩ := List.mem_map.mp hx
    have hi := List.mem_range.mp hi
    obtain ⟨j, hj, hm⟩ := bad (i + 1) (by omega) (by omega)
    exact List.mem_flatMap.mpr ⟨_, hm, List.mem_map.mpr ⟨_, mem_ways.mpr ⟨j, hj, rfl⟩, by omega⟩⟩
  have nd : ((List.range 2198).map (fun i => ((i + 1 : Nat) : Int))).Nodup := List.pairwise_map.mpr (List.nodup_range.imp fun {a b} hab e => hab (by omega))
  have le := few_in nd sub
  rw [List.length_map, List.length_range, flat_len] at le
  have d1 := Ds_len gs
  have d2 : (ways gs).length = gs.length + 1 := by unfold ways; rw [List.length_map, offs_len]
  have d3 : (gs.length + 1) * (gs.length + 1) ≤ 13 * 13 := Nat.mul_le_mul (by omega) (by omega)
  have d4 : (Ds gs).length * (ways gs).length ≤ 169 * 13 := Nat.mul_le_mul (by omega) (by omega)
  omega
theorem least_nat {p : Nat → Prop} {n : Nat} (h : p n) : ∃ m, p m ∧ m ≤ n ∧ ∀ k < m, ¬ p k := by
  induction n using Nat.strongRecOn with
  | ind n ih =>
    by_cases z : ∃ k, k < n ∧ p k
    · obtain ⟨k, hk, pk⟩ := z
      obtain ⟨m, a, b, c⟩ := ih k hk pk
      exact ⟨m, a, by omega, c⟩
    · exact ⟨n, h, Nat.le_refl _, fun k hk pk => z ⟨k, hk, pk⟩⟩
theorem least_is {gs : List Int} (pos : ∀ x ∈ gs, 1 ≤ x) (h : Spr gs) (hl : gs.length ≤ 12) : ∃ g : Nat, IsLeast gs (g : Int) ∧ g ≤ 2198 := by
  obtain ⟨n, n1, n2, hn⟩ := some_fits pos h hl
  obtain ⟨m, ⟨m1, hm⟩, m2, hlow⟩ := least_nat (p := fun n => 1 ≤ n ∧ Spr (gs ++ [(n : Int)])) ⟨n1, hn⟩
  refine ⟨m, ⟨by omega, hm, fun x x1 x2 hx => hlow x.toNat (by omega) ⟨by omega, ?_⟩⟩, by omega⟩
  rw [Int.toNat_of_nonneg (by omega)]
  exact hx
/-- a list with so many least gaps more -/
inductive Ext (gs : List Int) : Nat → List Int → Prop
  | nil : Ext gs 0 gs
  | snoc {k : Nat} {r : List Int} {g : Int} : Ext gs k r → IsLeast r g → Ext gs (k + 1) (r ++ [g])
theorem Ext.one {gs : List Int} : ∀ {k : Nat} {r s : List Int}, Ext gs k r → Ext gs k s → r = s
  | 0, _, _, .nil, .nil => rfl
  | _ + 1, _, _, .snoc a x, .snoc b y => by
    have e := Ext.one a b
    subst e
    rw [x.one y]
theorem Ext.len {gs : List Int} : ∀ {k : Nat} {r : List Int}, Ext gs k r → r.length = gs.length + k
  | 0, _, .nil => rfl
  | _ + 1, _, .snoc a _ => by
    rw [List.length_append, a.len]
    rfl
theorem Ext.add {gs r : List Int} {j : Nat} (a : Ext gs j r) : ∀ {k : Nat} {s : List Int}, Ext r k s → Ext gs (j + k) s
  | 0, _, .nil => a
  | _ + 1, _, .snoc b x => .snoc (Ext.add a b) x
/-- such a list is spread, and its gaps are gaps -/
theorem Ext.fine {gs : List Int} (hS : Spr gs) (hall : ∀ x ∈ gs, 1 ≤ x ∧ x ≤ 1000000000000) : ∀ {k : Nat} {r : List Int}, Ext gs k r → gs.length + k ≤ 13 → Spr r ∧ ∀ x ∈ r, 1 ≤ x ∧ x ≤ 1000000000000
  | 0, _, .nil, _ => ⟨hS, hall⟩
  | k + 1, _, .snoc (r := r) (g := g) a x, hk => by
    obtain ⟨h1, h2⟩ := Ext.fine hS hall a (by omega)
    have hl := a.len
    obtain ⟨n, hn, n2⟩ := least_is (fun x hx => (h2 x hx).1) h1 (by omega)
    have e := x.one hn
    refine ⟨x.2.1, fun y hy => ?_⟩
    rcases List.mem_append.mp hy with hy | hy
    · exact h2 y hy
    · rw [List.mem_singleton.mp hy]
      exact ⟨x.1, by omega⟩
theorem Ext.first {gs : List Int} : ∀ {k : Nat} {r : List Int}, Ext gs (k + 1) r → ∃ g, r[gs.length]? = some g ∧ IsLeast gs g
  | 0, _, .snoc .nil x => ⟨_, by simp, x⟩
  | k + 1, _, .snoc (r := r) a _ => by
    obtain ⟨g, h1, h2⟩ := Ext.first a
    have hi := (List.getElem?_eq_some_iff.mp h1).1
    exact ⟨g, by rw [List.getElem?_append_left hi]; exact h1, h2⟩
section
variable {P : Program} {w : World} {K : PySem.W.Frag} {mg : Str → Option Value} {base : Heap}
/-! ### _least_gap -/
def spLg : Sp := fun vs H Q _ => ∃ (a : Addr) (gs : List Int), vs = [.ref a] ∧ H a = some (.lst (gs.map V.int)) ∧ gs.length ≤ 12 ∧ Spr gs ∧ (∀ x ∈ gs, 1 ≤ x) ∧ ∀ g H', IsLeast gs g → Same H H' → Q (.int g) H'
def lgN : List Str := ["gaps", "ways", "taken", "gap", "difference"]
theorem scLg : FnScope lgN ["gaps"] (defScope s_least_gap) := ⟨rfl, rfl, rfl, by decide +kernel, rfl, by decide +kernel, by decide +kernel⟩
theorem ok_lg {f C fW fD fF : Addr} {fd fdW fdD fdF : FuncData} (F : Fun K "_least_gap" "_least_gap" s_least_gap f fd) (T : Txt K mg C)
    (GW : FnOk P w K mg base CX0 2 fW fdW ["gaps"] spWb) (bW : Binds K fdW ["gaps"] []) (mW : mg "_ways_back" = some (.ref fW)) (kW : PySem.W.keepIn K (.ref fW) = true)
    (GD : FnOk P w K mg base CX0 2 fD fdD ["gaps"] spDf) (bD : Binds K fdD ["gaps"] []) (mD : mg "_differences" = some (.ref fD)) (kD : PySem.W.keepIn K (.ref fD) = true)
    (GF : FnOk P w K mg base CX0 1 fF fdF ["gap", "ways", "taken"] spFt) (bF : Binds K fdF ["gap", "ways", "taken"] []) (mF : mg "_fits" = some (.ref fF)) (kF : PySem.W.keepIn K (.ref fF) = true) : FnOk P w K mg base CX0 3 f fd ["gaps"] spLg := by
  refine F.ok scLg (fun vs H Q E h => ?_) (fun cdv A outer s H vs Q E hr h => ?_)
  · obtain ⟨a, gs, rfl, _⟩ := h
    rfl
  · obtain ⟨a, gs, rfl, ha, hl, hS, pos, k⟩ := h
    have hr1 := hr.mono (show 1 ≤ 2 by decide)
    refine ⟨_, (pss_cons (ps_set (i := 1) scLg.nd rfl (Or.inl rfl) (pe_call GW hr rfl mW kW bW .nil pass0 (pa_cons (pv 0) pa_nil))) (pss_cons (ps_setDc (i := 2) (own := [("difference", 4)]) (g := gName 4) (tt := tYes) (by rfl) scLg.nd rfl rfl (sw_dict rfl rfl rfl (by decide +kernel)) (pi_list (pe_call GD hr rfl mD kD bD .nil pass0 (pa_cons (pv 0) pa_nil))) (blkOk_by (own := [("difference", 4)]) (N := lgN) (sc := defScope s_least_gap) (by decide +kernel)) (fun _ _ _ _ _ => (pg_name (i := 4) scLg.nd rfl (Or.inl rfl))) (fun _ _ _ _ _ => pts_nil) (fun _ _ _ _ _ => pv 4) (fun _ _ _ _ _ => pe_bl)) (pss_cons (ps_set (i := 3) scLg.nd rfl (Or.inl rfl) pe_int) (pss_cons (ps_while PassesOwn.never (pt_not (pt_val (pe_call GF hr1 rfl mF kF bF .nil pass0 (pa_cons (pv 3) (pa_cons (pv 1) (pa_cons (pv 2) pa_nil)))))) (pss_one (ps_set (i := 3) scLg.nd rfl (Or.inl rfl) (pe_op op_add (pv 3) pe_int)))) (pss_one (ps_ret (pv 3))))))), ?_⟩
    refine ⟨_, rfl, a, gs, rfl, ha, by omega, fun wl H2 hw S2 hw2 => ?_⟩
    have ha2 := S2 _ _ ha
    refine ⟨_, rfl, a, gs, rfl, ha2, by omega, fun d H3 hd S3 hd3 => ?_⟩
    have hw3 := S3 _ _ hw2
    have dl := Ds_len gs
    have d2 : (gs.length + 1) * (gs.length + 1) ≤ 13 * 13 := Nat.mul_le_mul (by omega) (by omega)
    have S13 := S2.trans S3
    refine ⟨d, rfl, ⟨_, SqL.of hd3⟩, fun D hD => dc_it walk_list (fun i H' => Same H3 H' ∧ ∃ kvs, H' D = some (.dK kvs) ∧ kvs.length ≤ i ∧ KeysAre kvs ((Ds gs).take i)) ⟨same_new hD, [], upd_same, Nat.le_refl _, fun i => by simp [valV]⟩ (fun i H' _ z => SqL.of (z.1 _ _ hd3)) (fun i x H4 H5 hi z y => ?_) (fun H4 z => ?_)⟩
    · obtain ⟨rfl, hx⟩ := y
      obtain ⟨e, he, rfl⟩ := map_of hx
      obtain ⟨S4, kvs, hk, hkl, hkeys⟩ := z
      rw [List.length_map] at hi
      refine ⟨rfl, yes_t (iteT ?_)⟩
      refine ⟨_, rfl, kvs, Sum.inl e, rfl, hk, small_line (by omega), same_app hD S4, _, upd_same, ?_, fun i' => ?_⟩
      · have := length_putK kvs (Sum.inl e : Key) (V.bl true)
        omega
      · rw [valV_put, List.take_add_one, he]
        by_cases ee : i' = e
        · subst ee
          rw [if_pos rfl]
          simp
        · rw [if_neg (fun q => ee (Sum.inl.inj q)), hkeys]
          simp [ee]
    obtain ⟨S4, kvs, hk, hkl, hkeys⟩ := z
    rw [List.length_map, List.take_length] at hkeys
    have hw4 := S4 _ _ hw3
    have S14 := S13.trans S4
    clear S13 S4 hd3 hw3 S2 S3 ha2 hw2 hw hd
    obtain ⟨m, hm, _⟩ := least_is pos hS hl
    refine ⟨fun n σ H' => ∃ g : Nat, n + g = m ∧ 1 ≤ g ∧ σ = [some (.ref a), some (.ref wl), some (.ref D), some (.int (g : Int)), none] ∧ Same H4 H' ∧ ∀ h : Int, 1 ≤ h → h < (g : Int) → ¬ Spr (gs ++ [h]), ⟨m - 1, 1, by have := hm.1; omega, Nat.le_refl _, rfl, Same.refl _, fun h h1 h2 => by omega⟩, ?_⟩
    rintro n σ H5 ⟨g, hng, hg1, rfl, S5, low⟩
    refine ⟨_, rfl, _, rfl, _, rfl, (g : Int), wl, D, ways gs, Ds gs, kvs, rfl, S5 _ _ hw4, by unfold ways; rw [List.length_map, offs_len]; omega, S5 _ _ hk, hkeys, fun H6 S6 => ⟨_, rfl, ?_⟩⟩
    rw [fit_spr pos hS]
    by_cases hsp : Spr (gs ++ [(g : Int)])
    · rw [decide_eq_true hsp]
      refine iteF ⟨_, rfl, k _ H6 ⟨by omega, hsp, low⟩ (S14.trans (S5.trans S6))⟩
    · rw [decide_eq_false hsp]
      refine iteT ⟨fun σ' H' => σ' = [some (.ref a), some (.ref wl), some (.ref D), some (.int ((g : Int) + 1)), none] ∧ H' = H6, ?_, ?_⟩
      · rintro σ' H' ⟨rfl, rfl⟩
        have ne : g ≠ m := fun e => hsp (by rw [e]; exact hm.2.1)
        have le : g ≤ m := by omega
        refine ⟨n - 1, by omega, g + 1, by omega, by omega, rfl, S5.trans S6, fun h h1 h2 => ?_⟩
        by_cases e : h = (g : Int)
        · rw [e]
          exact hsp
        · exact low h h1 (by omega)
      · exact ⟨_, rfl, _, _, rfl, rfl, rfl, rfl⟩
end
end RS
namespace RS
open PySem L2 Cmb
section
variable {P : Program} {w : World} {K : PySem.W.Frag} {mg : Str → Option Value} {base : Heap}
/-! ### extended -/
def spEx : Sp := fun vs H Q _ => ∃ (a : Addr) (gs : List Int) (m : Nat), vs = [.ref a, .int (m : Int)] ∧ H a = some (.lst (gs.map V.int)) ∧ GapsOk gs ∧ gs.length + m ≤ 12 ∧ Spr gs ∧ ∀ q r H', Ext gs m r → H q = none → Same H H' → H' q = some (.lst (r.map V.int)) → Q (.ref q) H'
def exN : List Str := ["gaps", "count", "found", "_"]
theorem scEx : FnScope exN ["gaps", "count"] (defScope s_extended) := ⟨rfl, rfl, rfl, by decide +kernel, rfl, by decide +kernel, by decide +kernel⟩
theorem ok_ex {f C fS fR fB fL : Addr} {fd fdS fdR fdB fdL : FuncData} (F : Fun K "extended" "extended" s_extended f fd) (T : Txt K mg C) (mM : ∃ t, mg "_MOST_GAPS" = some (.int 12 t))
    (GS : FnOk P w K mg base CX0 4 fS fdS ["gaps"] spCs) (bS : Binds K fdS ["gaps"] []) (mS : mg "_check_spread" = some (.ref fS)) (kS : PySem.W.keepIn K (.ref fS) = true)
    (GR : FnOk P w K mg base CX0 1 fR fdR ["gaps", "many"] spCr) (bR : Binds K fdR ["gaps", "many"] []) (mR : mg "_check_room" = some (.ref fR)) (kR : PySem.W.keepIn K (.ref fR) = true)
    (GB : FnOk P w K mg base CX0 2 fB fdB ["part", "value", "low", "high"] spCbH) (bB : Binds K fdB ["part", "value", "low", "high"] []) (mB : mg "check_bound" = some (.ref fB)) (kB : PySem.W.keepIn K (.ref fB) = true)
    (GL : FnOk P w K mg base CX0 3 fL fdL ["gaps"] spLg) (bL : Binds K fdL ["gaps"] []) (mL : mg "_least_gap" = some (.ref fL)) (kL : PySem.W.keepIn K (.ref fL) = true) : FnOk P w K mg base CX0 5 f fd ["gaps", "count"] spEx := by
  obtain ⟨tm, mm⟩ := mM
  refine F.ok scEx (fun vs H Q E h => ?_) (fun cdv A outer s H vs Q E hr h => ?_)
  · obtain ⟨a, gs, m, rfl, _⟩ := h
    rfl
  · obtain ⟨a, gs, m, rfl, ha, ok, hl, hS, k⟩ := h
    have hr1 := hr.mono (show 1 ≤ 4 by decide)
    have hr2 := hr.mono (show 2 ≤ 4 by decide)
    have hr3 := hr.mono (show 3 ≤ 4 by decide)
    refine ⟨_, (pss_cons (ps_expr (pe_call GS hr rfl mS kS bS .nil pass0 (pa_cons (pv 0) pa_nil))) (pss_cons (ps_expr (pe_call GB hr2 rfl mB kB bB .nil pass0 (pa_cons pe_str (pa_cons (pv 1) (pa_cons pe_int (pa_cons (pe_glob (v := .int 12) rfl mm ⟨_, rfl⟩) pa_nil)))))) (pss_cons (ps_expr (pe_call GR hr1 rfl mR kR bR .nil pass0 (pa_cons (pv 0) (pa_cons (pv 1) pa_nil)))) (pss_cons (ps_set (i := 2) scEx.nd rfl (Or.inl rfl) (pe_callTy call_list_of (by rfl) T.list (by decide +kernel) (pa_cons (pv 0) pa_nil))) (pss_cons (ps_for PassesOwn.never rfl (pi_range1 rfl T.range (pa_cons (pv 1) pa_nil)) (pg_name (i := 3) scEx.nd rfl (Or.inl rfl)) (pss_one (ps_expr (pe_bm PySem.F.plainAttrs_list PySem.F.slot_list_append PySem.F.type_list_append mt_append (pv 2) (pa_cons (pe_call GL hr3 rfl mL kL bL .nil pass0 (pa_cons (pv 2) pa_nil)) pa_nil))))) (pss_one (ps_ret (pv 2)))))))), ?_⟩
    refine ⟨_, rfl, a, gs, rfl, ha, ok, by omega, hS, fun H1 S1 => ?_⟩
    have ha1 := S1 _ _ ha
    refine ⟨_, rfl, _, (m : Int), 0, 12, rfl, by omega, by omega, ?_⟩
    refine ⟨_, rfl, _, rfl, a, gs, (m : Int), rfl, ha1, by omega, ?_⟩
    refine ⟨_, rfl, a, _, rfl, .inl (SqL.of ha1), fun q hq => ?_⟩
    have hm : (((m : Nat) : Int)).toNat = m := Int.toNat_natCast m
    have hqH : H q = none := S1.free hq
    refine ⟨_, rfl, m, rfl, by omega, by omega, for_range (lo := 0) (n := (((m : Nat) : Int)).toNat) (fun i σ H' => ∃ (v3 : Option V) (r : List Int), σ = [some (.ref a), some (.int (m : Int)), some (.ref q), v3] ∧ Same H H' ∧ H' q = some (.lst (r.map V.int)) ∧ Ext gs i r) ⟨none, gs, rfl, S1.trans (same_new hq), upd_same, .nil⟩ ?_ ?_⟩
    · rintro i σ H2 hi ⟨v3, r, rfl, S2, hr2', x⟩
      rw [hm] at hi
      obtain ⟨f1, f2⟩ := x.fine hS ok.2 (by omega)
      have xl := x.len
      refine ⟨_, rfl, .inl ⟨rfl, _, SqL.of hr2'⟩, _, rfl, q, r, rfl, hr2', by omega, f1, fun y hy => (f2 y hy).1, fun g H3 hg S3 => ?_⟩
      refine ⟨q, _, _, rfl, rfl, S3 _ _ hr2', by rw [List.length_map]; exact small1000 (by omega), ?_⟩
      exact ⟨_, _, rfl, same_app hqH (S2.trans S3), by rw [upd_same, List.map_append]; rfl, .snoc x hg⟩
    · rintro σ H2 ⟨v3, r, rfl, S2, hr2', x⟩
      rw [hm] at x
      exact ⟨_, rfl, k q r H2 x hqH S2 hr2'⟩
/-! ### _law_least -/
def spLl : Sp := fun vs H Q _ => ∃ (a : Addr) (gs : List Int), vs = [.ref a] ∧ H a = some (.lst (gs.map V.int)) ∧ gs.length ≤ 12 ∧ Spr gs ∧ (∀ x ∈ gs, 1 ≤ x) ∧ ∀ g H', IsLeast gs g → Same H H' → Q (.int g) H'
theorem scLl : FnScope ["_law_gaps_here", "_law_step"] ["_law_gaps_here"] (defScope s_law_least) := ⟨rfl, rfl, rfl, by decide +kernel, rfl, by decide +kernel, by decide +kernel⟩
theorem ok_ll {f fI : Addr} {fd fdI : FuncData} (F : Fun K "_law_least" "_law_least" s_law_least f fd)
    (GI : FnOk P w K mg base CX0 1 fI fdI ["_law_gaps_here"] spIs) (bI : Binds K fdI ["_law_gaps_here"] []) (mI : mg "_law_is_spread" = some (.ref fI)) (kI : PySem.W.keepIn K (.ref fI) = true) : FnOk P w K mg base CX0 2 f fd ["_law_gaps_here"] spLl := by
  refine F.ok scLl (fun vs H Q E h => ?_) (fun cdv A outer s H vs Q E hr h => ?_)
  · obtain ⟨a, gs, rfl, _⟩ := h
    rfl
  · obtain ⟨a, gs, rfl, ha, hl, hS, pos, k⟩ := h
    refine ⟨_, (pss_cons (ps_set (i := 1) scLl.nd rfl (Or.inl rfl) pe_int) (pss_cons (ps_while PassesOwn.never (pt_not (pt_val (pe_call GI hr rfl mI kI bI .nil pass0 (pa_cons (pe_op op_cat (pv 0) (pe_lst (pa_cons (pv 1) pa_nil))) pa_nil)))) (pss_one (ps_set (i := 1) scLl.nd rfl (Or.inl rfl) (pe_op op_add (pv 1) pe_int)))) (pss_one (ps_ret (pv 1))))), ?_⟩
    obtain ⟨m, hm, _⟩ := least_is pos hS hl
    refine ⟨fun n σ H' => ∃ g : Nat, n + g = m ∧ 1 ≤ g ∧ σ = [some (.ref a), some (.int (g : Int))] ∧ Same H H' ∧ ∀ h : Int, 1 ≤ h → h < (g : Int) → ¬ Spr (gs ++ [h]), ⟨m - 1, 1, by have := hm.1; omega, Nat.le_refl _, rfl, Same.refl _, fun h h1 h2 => by omega⟩, ?_⟩
    rintro n σ H5 ⟨g, hng, hg1, rfl, S5, low⟩
    refine ⟨_, rfl, _, rfl, (by show 1 ≤ sizeLine; decide), fun e1 he1 => ?_⟩
    have t1 := same_new (o := .lst [V.int (g : Int)]) he1
    refine ⟨a, e1, _, _, rfl, rfl, t1 _ _ (S5 _ _ ha), upd_same, by rw [List.length_map]; exact Nat.le_of_lt (small1000 (by show gs.length + 1 ≤ 1000; omega)), fun e2 he2 => ?_⟩
    have t2 := t1.trans (same_new (o := .lst (gs.map V.int ++ [V.int (g : Int)])) he2)
    refine ⟨e2, gs ++ [(g : Int)], rfl, by rw [upd_same, List.map_append]; rfl, by rw [List.length_append]; show gs.length + 1 ≤ 20; omega, fun H6 S6 => ⟨_, rfl, ?_⟩⟩
    have S56 := S5.trans (t2.trans S6)
    by_cases hsp : Spr (gs ++ [(g : Int)])
    · rw [decide_eq_true hsp]
      exact iteF ⟨_, rfl, k _ H6 ⟨by omega, hsp, low⟩ S56⟩
    · rw [decide_eq_false hsp]
      refine iteT ⟨fun σ' H' => σ' = [some (.ref a), some (.int ((g : Int) + 1))] ∧ H' = H6, ?_, ?_⟩
      · rintro σ' H' ⟨rfl, rfl⟩
        have ne : g ≠ m := fun e => hsp (by rw [e]; exact hm.2.1)
        have le : g ≤ m := by omega
        refine ⟨n - 1, by omega, g + 1, by omega, by omega, rfl, S56, fun h h1 h2 => ?_⟩
        by_cases e : h = (g : Int)
        · rw [e]
          exact hsp
        · exact low h h1 (by omega)
      · exact ⟨_, rfl, _, _, rfl, rfl, rfl, rfl⟩
end
end RS
namespace RS
open PySem L2 Cmb
theorem kb_ex {K : PySem.W.Frag} {f : Addr} {fd : FuncData} (F : Fun K "extended" "extended" s_extended f fd) : KBn K fd ["gaps", "count"] 0 ["count", "gaps"] (fun us ws => us ++ ws.reverse) (fun vs zs => vs ++ zs.reverse) := kb_swap F (fun _ _ _ _ _ _ _ _ => rfl) rfl
theorem nextG_least {gs : List Int} {m : Nat} (h : IsLeast gs (m : Int)) : nextG gs m = [(m : Int)] := by
  have h1 := h.1
  obtain ⟨k, rfl⟩ : ∃ k, m = k + 1 := ⟨m - 1, by omega⟩
  unfold nextG
  rw [List.range_succ, List.map_append, List.filter_append]
  have e : ((List.range k).map fun (i : Nat) => (1 : Int) + (i : Int)).filter (fun g => decide (Spr (gs ++ [g]))) = [] := by
    rw [List.filter_eq_nil_iff]
    intro x hx
    obtain ⟨i, hi, rfl⟩ := List.mem_map.mp hx
    have := List.mem_range.mp hi
    rw [decide_eq_true_iff]
    exact h.2.2 _ (by omega) (by omega)
  rw [e, List.nil_append]
  show ([(1 : Int) + (k : Int)].filter _) = _
  have e2 : (1 : Int) + (k : Int) = ((k + 1 : Nat) : Int) := by omega
  rw [e2, List.filter_cons, if_pos (decide_eq_true h.2.1)]
  rfl
def cellsOf (n : Nat) (ns : List Int) : List Int := ns.getD 0 0 :: ((ns.drop 1).take (n - 1))
def klN : List Str := ["_law_script", "_law_cell", "_law_source", "_law_gaps_here", "_law_k", "_law_step", "_law_kept", "_law_count_here", "_law_due", "_law_found", "_law_half"]
theorem scLaw : FnScope klN ["_law_script"] (defScope s_law) := ⟨rfl, rfl, rfl, by decide +kernel, rfl, by decide +kernel, by decide +kernel⟩
section
variable {P : Program} {w : World} {K : PySem.W.Frag} {mg : Str → Option Value} {base : Heap}
def spLaw (K : PySem.W.Frag) : Sp := fun vs H Q _ => ∃ (a : Addr) (ns : List Int), vs = [.ref a] ∧ SqL K H a (ns.map V.int) ∧ ns.length ≤ 63 ∧ ∀ H', Q (.bl true) H'
theorem Src.off {H : Hp} {a g : Addr} {b : Nat} {o : HO} (S : Src H a b) (n : g ≠ a) : Src (upd H g o) a b := by
  obtain ⟨s0, s1, s2, e1, e2⟩ := S.ex
  exact ⟨s0, s1, s2, (upd_ne (Ne.symm n)).trans e1, e2⟩
theorem ok_law {f C fCell fSrc fN fO fIs fLl fEx fNg : Addr} {fd fdCell fdSrc fdN fdO fdIs fdLl fdEx fdNg : FuncData} (F : Fun K "law" "law" s_law f fd) (T : Txt K mg C) (FEx : Fun K "extended" "extended" s_extended fEx fdEx)
    (GCell : FnOk P w K mg base CX0 1 fCell fdCell ["_law_script", "_law_k"] (spCell K)) (bCell : Binds K fdCell ["_law_script", "_law_k"] []) (mCell : mg "_law_cell_at" = some (.ref fCell)) (kCell : PySem.W.keepIn K (.ref fCell) = true)
    (GSrc : FnOk P w K mg base CX0 1 fSrc fdSrc ["_law_cell"] spSrcOf) (bSrc : Binds K fdSrc ["_law_cell"] []) (mSrc : mg "_law_source_of" = some (.ref fSrc)) (kSrc : PySem.W.keepIn K (.ref fSrc) = true)
    (GN : FnOk P w K mg base CX0 1 fN fdN ["_law_source", "_law_many"] spNext) (bN : Binds K fdN ["_law_source", "_law_many"] []) (mN : mg "_law_next" = some (.ref fN)) (kN : PySem.W.keepIn K (.ref fN) = true)
    (GO : FnOk P w K mg base CX0 2 fO fdO ["_law_source", "_law_options"] spOne) (bO : Binds K fdO ["_law_source", "_law_options"] []) (mO : mg "_law_one" = some (.ref fO)) (kO : PySem.W.keepIn K (.ref fO) = true)
    (GIs : FnOk P w K mg base CX0 1 fIs fdIs ["_law_gaps_here"] spIs) (bIs : Binds K fdIs ["_law_gaps_here"] []) (mIs : mg "_law_is_spread" = some (.ref fIs)) (kIs : PySem.W.keepIn K (.ref fIs) = true)
    (GLl : FnOk P w K mg base CX0 2 fLl fdLl ["_law_gaps_here"] spLl) (bLl : Binds K fdLl ["_law_gaps_here"] []) (mLl : mg "_law_least" = some (.ref fLl)) (kLl : PySem.W.keepIn K (.ref fLl) = true)
    (GEx : FnOk P w K mg base CX0 5 fEx fdEx ["gaps", "count"] spEx) (bEx : Binds K fdEx ["gaps", "count"] []) (mEx : mg "extended" = some (.ref fEx)) (kEx : PySem.W.keepIn K (.ref fEx) = true)
    (GNg : FnOk P w K mg base CX0 5 fNg fdNg ["gaps", "most"] spNg) (bNg : Binds K fdNg ["gaps", "most"] []) (mNg : mg "next_gaps" = some (.ref fNg)) (kNg : PySem.W.keepIn K (.ref fNg) = true) :
    FnOk P w K mg base CX0 6 f fd ["_law_script"] (spLaw K) := by
  refine F.ok scLaw (fun vs H Q E h => ?_) (fun cdv A outer s H vs Q E hr h => ?_)
  · obtain ⟨a, ns, rfl, _⟩ := h
    rfl
  · obtain ⟨sc, ns, rfl, hs, hn63, k⟩ := h
    have hr1 := hr.mono (show 1 ≤ 5 by decide)
    have hr2 := hr.mono (show 2 ≤ 5 by decide)
    refine ⟨_, (pss_cons (ps_for PassesOwn.never rfl (pi_list (pe_op op_cat (pe_lst (pa_cons (pe_call GCell hr1 rfl mCell kCell bCell .nil pass0 (pa_cons (pv 0) (pa_cons pe_int pa_nil))) pa_nil)) (pe_slice sl_list (pv 0) (po_some pe_int) (po_some pe_int)))) (pg_name (i := 1) scLaw.nd rfl (Or.inl rfl)) (pss_cons (ps_set (i := 2) scLaw.nd rfl (Or.inl rfl) (pe_call GSrc hr1 rfl mSrc kSrc bSrc .nil pass0 (pa_cons (pv 1) pa_nil))) (pss_cons (ps_set (i := 3) scLaw.nd rfl (Or.inl rfl) (pe_lst pa_nil)) (Evl.pss_cut (ps_for PassesOwn.never rfl (pi_range1 rfl T.range (pa_cons (pe_call GN hr1 rfl mN kN bN .nil pass0 (pa_cons (pv 2) (pa_cons pe_int pa_nil))) pa_nil)) (pg_name (i := 4) scLaw.nd rfl (Or.inl rfl)) (pss_cons (ps_set (i := 5) scLaw.nd rfl (Or.inl rfl) (pe_op op_add pe_int (pe_call GN hr1 rfl mN kN bN .nil pass0 (pa_cons (pv 2) (pa_cons (pe_call GO hr2 rfl mO kO bO .nil pass0 (pa_cons (pv 2) (pa_cons (pe_lst (pa_cons pe_int (pa_cons pe_int (pa_cons (pe_op op_pow pe_int pe_int) pa_nil)))) pa_nil))) pa_nil))))) (pss_one (ps_if (pt_val (pe_call GIs hr1 rfl mIs kIs bIs .nil pass0 (pa_cons (pe_op op_cat (pv 3) (pe_lst (pa_cons (pv 5) pa_nil))) pa_nil))) (pss_one (ps_expr (pe_bm PySem.F.plainAttrs_list PySem.F.slot_list_append PySem.F.type_list_append mt_append (pv 3) (pa_cons (pv 5) pa_nil)))) pss_nil)))) (pss_cons (ps_set (i := 6) scLaw.nd rfl (Or.inl rfl) (pe_callTy call_list_of (by rfl) T.list (by decide +kernel) (pa_cons (pv 3) pa_nil))) (pss_cons (ps_set (i := 7) scLaw.nd rfl (Or.inl rfl) (pe_call GN hr1 rfl mN kN bN .nil pass0 (pa_cons (pv 2) (pa_cons (pe_call GO hr2 rfl mO kO bO .nil pass0 (pa_cons (pv 2) (pa_cons (pe_lst (pa_cons pe_int (pa_cons pe_int (pa_cons (pe_op op_sub pe_int (pe_callB call_len_seq (by rfl) T.len (by decide +kernel) (pa_cons (pv 3) pa_nil))) pa_nil)))) pa_nil))) pa_nil)))) (pss_cons (ps_set (i := 8) scLaw.nd rfl (Or.inl rfl) (pe_callTy call_list_of (by rfl) T.list (by decide +kernel) (pa_cons (pv 3) pa_nil))) (Evl.pss_cut (ps_for PassesOwn.never rfl (pi_range1 rfl T.range (pa_cons (pv 7) pa_nil)) (pg_name (i := 4) scLaw.nd rfl (Or.inl rfl)) (pss_one (ps_expr (pe_bm PySem.F.plainAttrs_list PySem.F.slot_list_append PySem.F.type_list_append mt_append (pv 8) (pa_cons (pe_call GLl hr2 rfl mLl kLl bLl .nil pass0 (pa_cons (pv 8) pa_nil)) pa_nil))))) (pss_cons (ps_set (i := 9) scLaw.nd rfl (Or.inl rfl) (pe_call GEx hr rfl mEx kEx bEx .nil pass0 (pa_cons (pv 3) (pa_cons (pv 7) pa_nil)))) (pss_cons (ps_if (PW.pt (pw_or (pt_cmpR (op_neD hr.units) (pv 9) (pv 8) (nomark _)) (pw_or1 (pt_cmpR (op_neD hr.units) (pv 3) (pv 6) (nomark _))))) (pss_one (ps_ret pe_bl)) pss_nil) (Evl.pss_cut (ps_expr (pe_bm PySem.F.plainAttrs_list PySem.F.slot_list_append PySem.F.type_list_append mt_append (pv 9) (pa_cons pe_int pa_nil))) (pss_cons (ps_set (i := 10) scLaw.nd rfl (Or.inl rfl) (pe_call GN hr1 rfl mN kN bN .nil pass0 (pa_cons (pv 2) (pa_cons (pe_op op_add (pv 7) pe_int) pa_nil)))) (Evl.pss_cut (ps_if (pt_cmpR (op_neD hr.units) (pe_defK0 GEx hr rfl mEx kEx (kb_ex FEx) pass0 (pk_cons (pe_op op_sub (pv 7) (pv 10)) (pk_cons (pe_call GEx hr rfl mEx kEx bEx .nil pass0 (pa_cons (pv 3) (pa_cons (pv 10) pa_nil))) pk_nil))) (pv 8) (nomark _)) (pss_one (ps_ret pe_bl)) pss_nil) (pss_one (ps_if (PW.pt (pw_and (pt_cmpR op_gt (pv 7) pe_int (nomark _)) (pw_and1 (pt_cmpR op_lt (pe_ix ix_list (pv 8) (pe_callB call_len_seq (by rfl) T.len (by decide +kernel) (pa_cons (pv 3) pa_nil)) (fun _ _ => rfl)) pe_int (nomark _))))) (pss_one (ps_if (pt_cmpR (op_neD hr.units) (pe_call GNg hr rfl mNg kNg bNg .nil pass0 (pa_cons (pv 3) (pa_cons (pe_ix ix_list (pv 8) (pe_callB call_len_seq (by rfl) T.len (by decide +kernel) (pa_cons (pv 3) pa_nil)) (fun _ _ => rfl)) pa_nil))) (pe_lst (pa_cons (pe_ix ix_list (pv 8) (pe_callB call_len_seq (by rfl) T.len (by decide +kernel) (pa_cons (pv 3) pa_nil)) (fun _ _ => rfl)) pa_nil)) (nomark _)) (pss_one (ps_ret pe_bl)) pss_nil)) pss_nil))))))))))))))) (pss_one (ps_ret pe_bl))), ?_⟩
    -- the cells
    refine ⟨_, rfl, sc, ns, rfl, hs, (by show 1 ≤ sizeLine; decide), fun l1 hl1 => ?_⟩
    refine ⟨_, rfl, _, rfl, _, rfl, sc, _, rfl, (same_new hl1).seq hs, fun l2 hl2 => ?_⟩
    have hl1' := same_new (o := .lst (cutV (ns.map V.int) (some 1) (some 4))) hl2 _ _ (upd_same (H := H) (a := l1) (o := .lst [V.int (ns.getD 0 0)]))
    refine ⟨l1, l2, _, _, rfl, rfl, hl1', upd_same, ?_, fun L hL => ?_⟩
    · have := cutV_length (ns.map V.int) (some 1) (some 4)
      rw [List.length_map] at this
      exact Nat.le_of_lt (small1000 (by show 1 + _ ≤ 1000; omega))
    have ecs : [V.int (ns.getD 0 0)] ++ cutV (ns.map V.int) (some 1) (some 4) = (cellsOf 4 ns).map V.int := by
      rw [show (some (1 : Int)) = some ((1 : Nat) : Int) from rfl, show (some (4 : Int)) = some ((4 : Nat) : Int) from rfl, cut_mid]
      unfold cellsOf
      rw [List.map_cons, List.map_take, List.map_drop]
      rfl
    rw [ecs]
    generalize cellsOf 4 ns = cs
    refine ⟨L, rfl, ⟨_, SqL.of upd_same⟩, for_list (a := L) (xs := cs.map V.int) (fun i σ H' => (∃ v1 v2 v3 v4 v5 v6 v7 v8 v9 v10, σ = [some (.ref sc), v1, v2, v3, v4, v5, v6, v7, v8, v9, v10]) ∧ H' L = some (.lst (cs.map V.int))) ⟨⟨_, _, _, _, _, _, _, _, _, _, rfl⟩, upd_same⟩ (fun i σ H' _ p => SqL.of p.2) ?_ (fun σ H' p => k H')⟩
    rintro i x σ H0 hx ⟨⟨v1, v2, v3, v4, v5, v6, v7, v8, v9, v10, rfl⟩, hL0⟩
    obtain ⟨c, _, rfl⟩ := map_of hx
    clear hx
    refine ⟨_, rfl, c, rfl, fun a H1 ha S1 R1 => ?_⟩
    have nLa : L ≠ a := ne_of_none hL0 ha
    have hL1 := S1 _ _ hL0
    refine ⟨(by show 0 ≤ sizeLine; decide), fun g hg => ?_⟩
    have s2 := same_new (o := .lst []) hg
    have nga : g ≠ a := (R1.new hg).symm
    have nLg : L ≠ g := ne_of_none hL1 hg
    have hL2 := s2 _ _ hL1
    have R2 := R1.mono s2
    have hg2 : (upd H1 g (.lst [])) g = some (.lst (([] : List Int).map V.int)) := upd_same
    show Evl.tCut _ _ _ _ (upd H1 g (.lst []))
    generalize (upd H1 g (.lst [])) = H2 at hL2 R2 hg2 ⊢
    clear s2 hg hL1 R1 ha S1 hL0
    -- the list
    refine ⟨fun σ H' => ∃ (v4 v5 : Option V) (gs : List Int) (b : Nat), σ = [some (.ref sc), some (.int c), some (.ref a), some (.ref g), v4, v5, v6, v7, v8, v9, v10] ∧ H' L = some (.lst (cs.map V.int)) ∧ Src H' a b ∧ b ≤ 20 ∧ H' g = some (.lst (gs.map V.int)) ∧ gs.length ≤ 4 ∧ (∀ x ∈ gs, 1 ≤ x ∧ x ≤ 1000000000000) ∧ Spr gs, ?_, ?_⟩
    · refine ⟨_, rfl, a, 5, 0, rfl, R2, by omega, by decide, by decide, fun n H3 n0 n1 kx3 R3 => ?_⟩
      obtain ⟨m, rfl⟩ : ∃ m : Nat, n = (m : Int) := ⟨n.toNat, by omega⟩
      have hm : (((m : Nat) : Int)).toNat = m := Int.toNat_natCast m
      refine ⟨m, rfl, by omega, by omega, for_range (lo := 0) (n := (((m : Nat) : Int)).toNat) (fun i σ H' => ∃ (v4 v5 : Option V) (gs : List Int), σ = [some (.ref sc), some (.int c), some (.ref a), some (.ref g), v4, v5, v6, v7, v8, v9, v10] ∧ H' L = some (.lst (cs.map V.int)) ∧ Src H' a (1 + 2 * i) ∧ H' g = some (.lst (gs.map V.int)) ∧ gs.length ≤ i ∧ (∀ x ∈ gs, 1 ≤ x ∧ x ≤ 1000000000000) ∧ Spr gs)
        ⟨_, _, [], rfl, kx3 _ _ nLa hL2, R3, kx3 _ _ nga hg2, Nat.le_refl _, (fun x hx => by cases hx), spr_nil⟩ ?_ ?_⟩
      · rintro i σ H4 hi ⟨v4, v5, gs, rfl, hL4, S4, hg4, hgl, hall, hS⟩
        rw [hm] at hi
        refine ⟨_, rfl, _, rfl, _, _, rfl, rfl, ⟨by decide, by decide, by decide⟩, (by show 3 ≤ sizeLine; decide), fun l0 hl0 => ?_⟩
        have s0 := same_new (o := .lst [V.int 5, .int 20, .int ((10 : Int) ^ (12 : Int).toNat)]) hl0
        refine ⟨a, l0, _, 1 + 2 * i, rfl, S4.mono s0, by omega, (S4.new hl0).symm, upd_same, (by show 0 < 3; decide), (by show 3 < 1000; decide), fun x H5 hx kx5 S5 => ?_⟩
        obtain ⟨wd, rfl, w1, w2⟩ : ∃ wd : Int, x = .int wd ∧ 1 ≤ wd ∧ wd ≤ 1000000000000 := by
          simp only [List.mem_cons, List.not_mem_nil, or_false] at hx
          rcases hx with rfl | rfl | rfl <;> exact ⟨_, rfl, by decide, by decide⟩
        refine ⟨a, wd, 1 + 2 * i + 1, rfl, S5, by omega, by omega, by omega, fun r H6 r0 r1 kx6 S6 => ⟨_, _, rfl, rfl, ?_⟩⟩
        have hg6 := kx6 _ _ nga (kx5 _ _ nga (s0 _ _ hg4))
        have hL6 := kx6 _ _ nLa (kx5 _ _ nLa (s0 _ _ hL4))
        clear kx6 kx5 S5 s0 hl0 hx hg4 hL4 S4
        refine ⟨_, rfl, _, rfl, (by show 1 ≤ sizeLine; decide), fun e1 he1 => ?_⟩
        have t1 := same_new (o := .lst [V.int (1 + r)]) he1
        refine ⟨g, e1, _, _, rfl, rfl, t1 _ _ hg6, upd_same, by rw [List.length_map]; exact Nat.le_of_lt (small1000 (by show gs.length + 1 ≤ 1000; omega)), fun e2 he2 => ?_⟩
        have t2 := t1.trans (same_new (o := .lst (gs.map V.int ++ [V.int (1 + r)])) he2)
        refine ⟨e2, gs ++ [1 + r], rfl, by rw [upd_same, List.map_append]; rfl, by rw [List.length_append]; show gs.length + 1 ≤ 20; omega, fun H8 s8 => ⟨_, rfl, ?_⟩⟩
        have s68 := t2.trans s8
        have hg8 := s68 _ _ hg6
        have hL8 := s68 _ _ hL6
        have S8 := S6.mono s68
        by_cases hsp : Spr (gs ++ [1 + r])
        · rw [decide_eq_true hsp]
          refine iteT ⟨_, rfl, .inl ⟨rfl, _, SqL.of hg8⟩, _, rfl, g, _, _, rfl, rfl, hg8, by rw [List.length_map]; exact small1000 (by omega), ?_⟩
          refine ⟨_, _, gs ++ [1 + r], rfl, (upd_ne nLg).trans hL8, (S8.off nga).le (by omega), by rw [upd_same, List.map_append]; rfl, by rw [List.length_append]; show gs.length + 1 ≤ i + 1; omega, fun x hx => ?_, hsp⟩
          rcases List.mem_append.mp hx with hx | hx
          · exact hall x hx
          · rw [List.mem_singleton.mp hx]
            omega
        · rw [decide_eq_false hsp]
          exact iteF ⟨_, _, gs, rfl, hL8, S8.le (by omega), hg8, by omega, hall, hS⟩
      · rintro σ H4 ⟨v4, v5, gs, rfl, hL4, S4, hg4, hgl, hall, hS⟩
        rw [hm] at hgl S4
        exact ⟨_, _, gs, _, rfl, hL4, S4, by omega, hg4, by omega, hall, hS⟩
    clear hL2 R2 hg2
    rintro _ H3 ⟨w4, w5, gs, b, rfl, hL3, R3, hb, hg3, hgl, hall, hS⟩
    have pos : ∀ x ∈ gs, 1 ≤ x := fun x hx => (hall x hx).1
    have okG : GapsOk gs := ⟨by omega, hall⟩
    have lg : (gs.map V.int).length = gs.length := List.length_map ..
    -- kept
    refine ⟨_, rfl, g, _, rfl, .inl (SqL.of hg3), fun kl hkl => ?_⟩
    have s4 := same_new (o := .lst (gs.map V.int)) hkl
    have nka : kl ≠ a := (R3.new hkl).symm
    have hk4 : (upd H3 kl (.lst (gs.map V.int))) kl = some (.lst (gs.map V.int)) := upd_same
    have hg4 := s4 _ _ hg3
    have hL4 := s4 _ _ hL3
    have R4 := R3.mono s4
    show (fun x H1 => _) (V.ref kl) (upd H3 kl (.lst (gs.map V.int)))
    generalize (upd H3 kl (.lst (gs.map V.int))) = H4 at hk4 hg4 hL4 R4 ⊢
    clear s4 hkl R3 hg3 hL3
    -- how many more
    refine ⟨_, rfl, _, rfl, _, rfl, g, _, rfl, .inl (SqL.of hg4), _, _, rfl, rfl, (by show 3 ≤ sizeLine; decide), fun l0 hl0 => ?_⟩
    have s0 := same_new (o := .lst [V.int 6, .int 6, .int (13 - (((gs.map V.int).length : Nat) : Int))]) hl0
    refine ⟨a, l0, _, b, rfl, R4.mono s0, by omega, (R4.new hl0).symm, upd_same, (by show 0 < 3; decide), (by show 3 < 1000; decide), fun x H5 hx kx5 R5 => ?_⟩
    obtain ⟨wd, rfl, w1, w2⟩ : ∃ wd : Int, x = .int wd ∧ 1 ≤ wd ∧ wd ≤ 13 - (gs.length : Int) := by
      simp only [List.mem_cons, List.not_mem_nil, or_false] at hx
      rcases hx with rfl | rfl | rfl
      · exact ⟨_, rfl, by decide, by omega⟩
      · exact ⟨_, rfl, by decide, by omega⟩
      · exact ⟨_, rfl, by rw [lg]; omega, by rw [lg]; omega⟩
    refine ⟨a, wd, b + 1, rfl, R5, by omega, by omega, by omega, fun r H6 r0 r1 kx6 R6 => ?_⟩
    obtain ⟨n, rfl⟩ : ∃ n : Nat, r = (n : Int) := ⟨r.toNat, by omega⟩
    have hn12 : gs.length + n ≤ 12 := by omega
    have hk6 := kx6 _ _ nka (kx5 _ _ nka (s0 _ _ hk4))
    have hg6 := kx6 _ _ nga (kx5 _ _ nga (s0 _ _ hg4))
    have hL6 := kx6 _ _ nLa (kx5 _ _ nLa (s0 _ _ hL4))
    clear kx6 R5 kx5 hx s0 hl0 R4 hk4 hg4 hL4 w1 w2 r0 r1
    -- what is due
    refine ⟨_, rfl, g, _, rfl, .inl (SqL.of hg6), fun dl hdl => ?_⟩
    have s7 := same_new (o := .lst (gs.map V.int)) hdl
    have nda : dl ≠ a := (R6.new hdl).symm
    have ndg : dl ≠ g := (ne_of_none hg6 hdl).symm
    have ndk : dl ≠ kl := (ne_of_none hk6 hdl).symm
    have ndL : dl ≠ L := (ne_of_none hL6 hdl).symm
    have hd7 : (upd H6 dl (.lst (gs.map V.int))) dl = some (.lst (gs.map V.int)) := upd_same
    have hk7 := s7 _ _ hk6
    have hg7 := s7 _ _ hg6
    have hL7 := s7 _ _ hL6
    have R7 := R6.mono s7
    show Evl.tCut _ _ _ _ (upd H6 dl (.lst (gs.map V.int)))
    generalize (upd H6 dl (.lst (gs.map V.int))) = H7 at hd7 hk7 hg7 hL7 R7 ⊢
    clear s7 hdl R6 hk6 hg6 hL6
    let Keep : Nat → List Int → Hp → Prop := fun b r H' => H' g = some (.lst (gs.map V.int)) ∧ H' kl = some (.lst (gs.map V.int)) ∧ H' L = some (.lst (cs.map V.int)) ∧ H' dl = some (.lst (r.map V.int)) ∧ Src H' a b
    have keep : ∀ {b : Nat} {r : List Int} {H' H'' : Hp}, Keep b r H' → Same H' H'' → Keep b r H'' := fun K S => ⟨S _ _ K.1, S _ _ K.2.1, S _ _ K.2.2.1, S _ _ K.2.2.2.1, K.2.2.2.2.mono S⟩
    have keepx : ∀ {b : Nat} {r : List Int} {H' H'' : Hp}, Keep b r H' → Kx a H' H'' → ∀ c, Src H'' a c → Keep c r H'' := fun K x c S => ⟨x _ _ nga K.1, x _ _ nka K.2.1, x _ _ nLa K.2.2.1, x _ _ nda K.2.2.2.1, S⟩
    have K7 : Keep (b + 2) gs H7 := ⟨hg7, hk7, hL7, hd7, R7⟩
    clear hd7 hk7 hg7 hL7 R7
    have hnn : (((n : Nat) : Int)).toNat = n := Int.toNat_natCast n
    refine ⟨fun σ H' => ∃ (v4 : Option V) (r : List Int), σ = [some (.ref sc), some (.int c), some (.ref a), some (.ref g), v4, w5, some (.ref kl), some (.int (n : Int)), some (.ref dl), v9, v10] ∧ Keep (b + 2) r H' ∧ Ext gs n r, ?_, ?_⟩
    · refine ⟨_, rfl, n, rfl, by omega, by omega, for_range (lo := 0) (n := (((n : Nat) : Int)).toNat) (fun i σ H' => ∃ (v4 : Option V) (r : List Int), σ = [some (.ref sc), some (.int c), some (.ref a), some (.ref g), v4, w5, some (.ref kl), some (.int (n : Int)), some (.ref dl), v9, v10] ∧ Keep (b + 2) r H' ∧ Ext gs i r) ⟨_, gs, rfl, K7, .nil⟩ ?_ ?_⟩
      · rintro i σ H8 hi ⟨v4, r, rfl, K8, x⟩
        rw [hnn] at hi
        obtain ⟨f1, f2⟩ := x.fine hS hall (by omega)
        have xl := x.len
        refine ⟨_, rfl, .inl ⟨rfl, _, SqL.of K8.2.2.2.1⟩, _, rfl, dl, r, rfl, K8.2.2.2.1, by omega, f1, fun y hy => (f2 y hy).1, fun q H9 hq S9 => ?_⟩
        have K9 := keep K8 S9
        refine ⟨dl, _, _, rfl, rfl, K9.2.2.2.1, by rw [List.length_map]; exact small1000 (by omega), ?_⟩
        exact ⟨_, r ++ [q], rfl, ⟨(upd_ne (Ne.symm ndg)).trans K9.1, (upd_ne (Ne.symm ndk)).trans K9.2.1, (upd_ne (Ne.symm ndL)).trans K9.2.2.1, by rw [upd_same, List.map_append]; rfl, K9.2.2.2.2.off nda⟩, .snoc x hq⟩
      · rintro σ H8 ⟨v4, r, rfl, K8, x⟩
        rw [hnn] at x
        exact ⟨_, r, rfl, K8, x⟩
    clear K7 hnn
    rintro _ H8 ⟨y4, r, rfl, K8, x⟩
    obtain ⟨f1, f2⟩ := x.fine hS hall (by omega)
    have xl := x.len
    -- what is found
    refine ⟨_, rfl, _, rfl, g, gs, n, rfl, K8.1, okG, hn12, hS, fun fo r' H9 x' hfo S9 hfo9 => ?_⟩
    cases x'.one x
    have K9 := keep K8 S9
    have nfa : fo ≠ a := (K8.2.2.2.2.new hfo).symm
    have nfg : fo ≠ g := (ne_of_none K8.1 hfo).symm
    have nfk : fo ≠ kl := (ne_of_none K8.2.1 hfo).symm
    have nfL : fo ≠ L := (ne_of_none K8.2.2.1 hfo).symm
    have nfd : fo ≠ dl := (ne_of_none K8.2.2.2.1 hfo).symm
    clear K8 hfo S9 x'
    refine ⟨_, rfl, _, rfl, _, _, list_dp (SqL.of hfo9), list_dp (SqL.of K9.2.2.2.1), PySem.W.ke_shaped_ints _, PySem.W.ke_shaped_ints _, _, rfl, iteFb (by rw [list_eqv, decide_eq_true rfl]; rfl) ?_⟩
    refine ⟨_, rfl, _, rfl, _, _, list_dp (SqL.of K9.1), list_dp (SqL.of K9.2.1), PySem.W.ke_shaped_ints _, PySem.W.ke_shaped_ints _, _, rfl, iteFb (by rw [list_eqv, decide_eq_true rfl]; rfl) ?_⟩
    -- the list that was returned is changed
    refine ⟨fun σ H' => σ = [some (.ref sc), some (.int c), some (.ref a), some (.ref g), y4, w5, some (.ref kl), some (.int (n : Int)), some (.ref dl), some (.ref fo), v10] ∧ Keep (b + 2) r H', ?_, ?_⟩
    · refine ⟨_, rfl, .inl ⟨rfl, _, SqL.of hfo9⟩, fo, _, _, rfl, rfl, hfo9, by rw [List.length_map]; exact small_line (by omega), ?_⟩
      exact ⟨rfl, (upd_ne (Ne.symm nfg)).trans K9.1, (upd_ne (Ne.symm nfk)).trans K9.2.1, (upd_ne (Ne.symm nfL)).trans K9.2.2.1, (upd_ne (Ne.symm nfd)).trans K9.2.2.2.1, K9.2.2.2.2.off nfa⟩
    clear K9 hfo9 nfa nfg nfk nfL nfd
    rintro _ H10 ⟨rfl, K10⟩
    -- in two steps
    refine ⟨_, rfl, _, rfl, _, _, rfl, rfl, a, (n : Int) + 1, b + 2, rfl, K10.2.2.2.2, by omega, by omega, by omega, fun h H11 h0 h1 kx11 R11 => ?_⟩
    obtain ⟨j, rfl⟩ : ∃ n : Nat, h = (n : Int) := ⟨h.toNat, by omega⟩
    have K11 := keepx K10 kx11 _ R11
    clear K10 kx11 R11
    refine ⟨fun σ H' => (∃ v9 v10, σ = [some (.ref sc), some (.int c), some (.ref a), some (.ref g), y4, w5, some (.ref kl), some (.int (n : Int)), some (.ref dl), v9, v10]) ∧ Keep (b + 3) r H', ?_, ?_⟩
    · refine ⟨_, rfl, _, rfl, _, _, rfl, rfl, _, rfl, _, rfl, g, gs, j, rfl, K11.1, okG, by omega, hS, fun q s H12 x1 hq S12 hq12 => ?_⟩
      have K12 := keep K11 S12
      obtain ⟨g1, g2⟩ := x1.fine hS hall (by omega)
      have sl := x1.len
      refine ⟨rfl, q, s, n - j, ?_, hq12, ⟨by omega, g2⟩, by omega, g1, fun q2 t H13 x2 hq2 S13 hq13 => ?_⟩
      · rw [show ((n - j : Nat) : Int) = (n : Int) - (j : Int) by omega]
        rfl
      have K13 := keep K12 S13
      have x3 := x1.add x2
      rw [show j + (n - j) = n by omega] at x3
      cases x3.one x
      exact ⟨_, rfl, _, _, list_dp (SqL.of hq13), list_dp (SqL.of K13.2.2.2.1), PySem.W.ke_shaped_ints _, PySem.W.ke_shaped_ints _, _, rfl, iteFb (by rw [list_eqv, decide_eq_true rfl]; rfl) ⟨⟨_, _, rfl⟩, K13⟩⟩
    clear K11 h0 h1
    rintro _ H12 ⟨⟨w9, w10, rfl⟩, K12⟩
    -- the next gap
    have fin : ∃ v1 v2 v3 v4 v5 v6 v7 v8 v9 v10, [some (V.ref sc), some (.int c), some (.ref a), some (.ref g), y4, w5, some (.ref kl), some (.int (n : Int)), some (.ref dl), w9, w10] = [some (V.ref sc), v1, v2, v3, v4, v5, v6, v7, v8, v9, v10] := ⟨_, _, _, _, _, _, _, _, _, _, rfl⟩
    refine ⟨_, rfl, _, _, rfl, rfl, _, rfl, ?_⟩
    match n, x with
    | 0, _ => exact iteFb rfl ⟨fin, K12.2.2.1⟩
    | n + 1, x =>
      obtain ⟨q, hq, hlst⟩ := x.first
      have at_ : atI (r.map V.int) (((gs.map V.int).length : Nat) : Int) = some (.int q) := by
        rw [lg]
        exact at_map hq
      refine iteTb (decide_eq_true (by show (0 : Int) < ((n + 1 : Nat) : Int); omega)) ?_
      refine ⟨_, rfl, _, rfl, g, _, rfl, .inl (SqL.of K12.1), dl, _, _, .int q, rfl, rfl, SqL.of K12.2.2.2.1, at_, _, _, rfl, rfl, _, rfl, ?_⟩
      by_cases hq2 : q < 2000
      · refine iteTb (decide_eq_true hq2) ?_
        have q1 := hlst.1
        obtain ⟨m, rfl⟩ : ∃ m : Nat, q = (m : Int) := ⟨q.toNat, by omega⟩
        refine ⟨_, rfl, _, rfl, _, rfl, g, _, rfl, .inl (SqL.of K12.1), dl, _, _, .int (m : Int), rfl, rfl, SqL.of K12.2.2.2.1, at_, g, gs, m, rfl, K12.1, okG, by omega, hS, by omega, by omega, fun o H13 ho S13 ho13 => ?_⟩
        have K13 := keep K12 S13
        rw [nextG_least hlst] at ho13
        refine ⟨_, rfl, _, rfl, g, _, rfl, .inl (SqL.of K13.1), dl, _, _, .int (m : Int), rfl, rfl, SqL.of K13.2.2.2.1, at_, (by show 1 ≤ sizeLine; decide), fun l hl => ?_⟩
        have s14 := same_new (o := .lst [V.int (m : Int)]) hl
        refine ⟨_, _, list_dp (SqL.of (s14 _ _ ho13)), list_dp (ns := [(m : Int)]) (SqL.of upd_same), PySem.W.ke_shaped_ints _, PySem.W.ke_shaped_ints _, _, rfl, iteFb (by rw [list_eqv, decide_eq_true rfl]; rfl) ?_⟩
        exact ⟨fin, s14 _ _ K13.2.2.1⟩
      · exact iteFb (decide_eq_false hq2) ⟨fin, K12.2.2.1⟩
end
end RS
namespace RS
open PySem L2
/-! ### what the top has written -/
theorem all_mk {l : PySem.W.OpenLaw} {w : World} {K : PySem.W.Frag} {h : Heap} {mg : Str → Option Value} {fa : Addr}  (X : K.In h) (G : h.Ns mainGlobals mg) (hfa : mg "law" = some (.ref fa)) (hlong : ∃ t, mg "_LONGEST_GAP" = some (.int 1000000000000 t))
    {fa0 : Addr} {oda0 ana0 : Option Addr} {sla0 : Array (Option Value)} {oca0 kVa0 dca0 pma0 cta0 : Value}
    {cda0 : Value}
    {fa1 : Addr} {oda1 ana1 : Option Addr} {sla1 : Array (Option Value)} {oca1 kVa1 dca1 pma1 cta1 : Value}
    {cda1 : Value}
    {fa2 : Addr} {oda2 ana2 : Option Addr} {sla2 : Array (Option Value)} {oca2 kVa2 dca2 pma2 cta2 : Value}
    {cda2 : Value}
    {fa3 : Addr} {oda3 ana3 : Option Addr} {sla3 : Array (Option Value)} {oca3 kVa3 dca3 pma3 cta3 : Value}
    {cda3 : Value}
    {fa4 : Addr} {oda4 ana4 : Option Addr} {sla4 : Array (Option Value)} {oca4 kVa4 dca4 pma4 cta4 : Value}
    {cda4 : Value}
    {fa5 : Addr} {oda5 ana5 : Option Addr} {sla5 : Array (Option Value)} {oca5 kVa5 dca5 pma5 cta5 : Value}
    {cda5 : Value}
    {fa6 : Addr} {oda6 ana6 : Option Addr} {sla6 : Array (Option Value)} {oca6 kVa6 dca6 pma6 cta6 : Value}
    {cda6 : Value}
    {fa7 : Addr} {oda7 ana7 : Option Addr} {sla7 : Array (Option Value)} {oca7 kVa7 dca7 pma7 cta7 : Value}
    {cda7 : Value}
    {fa8 : Addr} {oda8 ana8 : Option Addr} {sla8 : Array (Option Value)} {oca8 kVa8 dca8 pma8 cta8 : Value}
    {cda8 : Value}
    {fa9 : Addr} {oda9 ana9 : Option Addr} {sla9 : Array (Option Value)} {oca9 kVa9 dca9 pma9 cta9 : Value}
    {cda9 : Value}
    {fa10 : Addr} {oda10 ana10 : Option Addr} {sla10 : Array (Option Value)} {oca10 kVa10 dca10 pma10 cta10 : Value}
    {cda10 : Value}
    {fa11 : Addr} {oda11 ana11 : Option Addr} {sla11 : Array (Option Value)} {oca11 kVa11 dca11 pma11 cta11 : Value}
    {cda11 : Value}
    {fa12 : Addr} {oda12 ana12 : Option Addr} {sla12 : Array (Option Value)} {oca12 kVa12 dca12 pma12 cta12 : Value}
    {cda12 : Value}
    {fa13 : Addr} {oda13 ana13 : Option Addr} {sla13 : Array (Option Value)} {oca13 kVa13 dca13 pma13 cta13 : Value}
    {cda13 : Value}
    {fa14 : Addr} {oda14 ana14 : Option Addr} {sla14 : Array (Option Value)} {oca14 kVa14 dca14 pma14 cta14 : Value}
    {cda14 : Value}
    {fa15 : Addr} {oda15 ana15 : Option Addr} {sla15 : Array (Option Value)} {oca15 kVa15 dca15 pma15 cta15 : Value}
    {cda15 : Value}
    {fa16 : Addr} {oda16 ana16 : Option Addr} {sla16 : Array (Option Value)} {oca16 kVa16 dca16 pma16 cta16 : Value}
    {cda16 : Value}
    {fa17 : Addr} {oda17 ana17 : Option Addr} {sla17 : Array (Option Value)} {oca17 kVa17 dca17 pma17 cta17 : Value}
    {cda17 : Value}
    {fa18 : Addr} {oda18 ana18 : Option Addr} {sla18 : Array (Option Value)} {oca18 kVa18 dca18 pma18 cta18 : Value}
    {cda18 : Value}
    {fa19 : Addr} {oda19 ana19 : Option Addr} {sla19 : Array (Option Value)} {oca19 kVa19 dca19 pma19 cta19 : Value}
    {cda19 : Value}
    {tMG : Tok}
    {tWG : Tok}
    (Aa0 : PySem.W.nsIn K mainGlobals "law" = some (some (.ref fa0)))
    (La0 : K.lookup fa0 = some ⟨oca0, oda0, .func (PySem.W.fnOf "law" "law" (defArgs s_law) (defBody s_law) (defScope s_law) .none kVa0 dca0 pma0 ana0 cda0 cta0), sla0⟩) (Ca0 : PySem.W.codeIn K cda0 "law" = true) (Ka0 : PySem.W.keepIn K (.ref fa0) = true)
    (Aa1 : PySem.W.nsIn K mainGlobals "is_integer" = some (some (.ref fa1)))
    (La1 : K.lookup fa1 = some ⟨oca1, oda1, .func (PySem.W.fnOf "is_integer" "is_integer" (defArgs s_is_integer) (defBody s_is_integer) (defScope s_is_integer) .none kVa1 dca1 pma1 ana1 cda1 cta1), sla1⟩) (Ca1 : PySem.W.codeIn K cda1 "is_integer" = true) (Ka1 : PySem.W.keepIn K (.ref fa1) = true)
    (Aa2 : PySem.W.nsIn K mainGlobals "are_gaps" = some (some (.ref fa2)))
    (La2 : K.lookup fa2 = some ⟨oca2, oda2, .func (PySem.W.fnOf "are_gaps" "are_gaps" (defArgs s_are_gaps) (defBody s_are_gaps) (defScope s_are_gaps) .none kVa2 dca2 pma2 ana2 cda2 cta2), sla2⟩) (Ca2 : PySem.W.codeIn K cda2 "are_gaps" = true) (Ka2 : PySem.W.keepIn K (.ref fa2) = true)
    (Aa3 : PySem.W.nsIn K mainGlobals "sums" = some (some (.ref fa3)))
    (La3 : K.lookup fa3 = some ⟨oca3, oda3, .func (PySem.W.fnOf "sums" "sums" (defArgs s_sums) (defBody s_sums) (defScope s_sums) .none kVa3 dca3 pma3 ana3 cda3 cta3), sla3⟩) (Ca3 : PySem.W.codeIn K cda3 "sums" = true) (Ka3 : PySem.W.keepIn K (.ref fa3) = true)
    (Aa4 : PySem.W.nsIn K mainGlobals "_law_source_of" = some (some (.ref fa4)))
    (La4 : K.lookup fa4 = some ⟨oca4, oda4, .func (PySem.W.fnOf "_law_source_of" "_law_source_of" (defArgs s_law_source_of) (defBody s_law_source_of) (defScope s_law_source_of) .none kVa4 dca4 pma4 ana4 cda4 cta4), sla4⟩) (Ca4 : PySem.W.codeIn K cda4 "_law_source_of" = true) (Ka4 : PySem.W.keepIn K (.ref fa4) = true)
    (Aa5 : PySem.W.nsIn K mainGlobals "_law_next" = some (some (.ref fa5)))
    (La5 : K.lookup fa5 = some ⟨oca5, oda5, .func (PySem.W.fnOf "_law_next" "_law_next" (defArgs s_law_next) (defBody s_law_next) (defScope s_law_next) .none kVa5 dca5 pma5 ana5 cda5 cta5), sla5⟩) (Ca5 : PySem.W.codeIn K cda5 "_law_next" = true) (Ka5 : PySem.W.keepIn K (.ref fa5) = true)
    (Aa6 : PySem.W.nsIn K mainGlobals "_law_one" = some (some (.ref fa6)))
    (La6 : K.lookup fa6 = some ⟨oca6, oda6, .func (PySem.W.fnOf "_law_one" "_law_one" (defArgs s_law_one) (defBody s_law_one) (defScope s_law_one) .none kVa6 dca6 pma6 ana6 cda6 cta6), sla6⟩) (Ca6 : PySem.W.codeIn K cda6 "_law_one" = true) (Ka6 : PySem.W.keepIn K (.ref fa6) = true)
    (Aa7 : PySem.W.nsIn K mainGlobals "_law_cell_at" = some (some (.ref fa7)))
    (La7 : K.lookup fa7 = some ⟨oca7, oda7, .func (PySem.W.fnOf "_law_cell_at" "_law_cell_at" (defArgs s_law_cell_at) (defBody s_law_cell_at) (defScope s_law_cell_at) .none kVa7 dca7 pma7 ana7 cda7 cta7), sla7⟩) (Ca7 : PySem.W.codeIn K cda7 "_law_cell_at" = true) (Ka7 : PySem.W.keepIn K (.ref fa7) = true)
    (Aa8 : PySem.W.nsIn K mainGlobals "_differences" = some (some (.ref fa8)))
    (La8 : K.lookup fa8 = some ⟨oca8, oda8, .func (PySem.W.fnOf "_differences" "_differences" (defArgs s_differences) (defBody s_differences) (defScope s_differences) .none kVa8 dca8 pma8 ana8 cda8 cta8), sla8⟩) (Ca8 : PySem.W.codeIn K cda8 "_differences" = true) (Ka8 : PySem.W.keepIn K (.ref fa8) = true)
    (Aa9 : PySem.W.nsIn K mainGlobals "_ways_back" = some (some (.ref fa9)))
    (La9 : K.lookup fa9 = some ⟨oca9, oda9, .func (PySem.W.fnOf "_ways_back" "_ways_back" (defArgs s_ways_back) (defBody s_ways_back) (defScope s_ways_back) .none kVa9 dca9 pma9 ana9 cda9 cta9), sla9⟩) (Ca9 : PySem.W.codeIn K cda9 "_ways_back" = true) (Ka9 : PySem.W.keepIn K (.ref fa9) = true)
    (Aa10 : PySem.W.nsIn K mainGlobals "_fits" = some (some (.ref fa10)))
    (La10 : K.lookup fa10 = some ⟨oca10, oda10, .func (PySem.W.fnOf "_fits" "_fits" (defArgs s_fits) (defBody s_fits) (defScope s_fits) .none kVa10 dca10 pma10 ana10 cda10 cta10), sla10⟩) (Ca10 : PySem.W.codeIn K cda10 "_fits" = true) (Ka10 : PySem.W.keepIn K (.ref fa10) = true)
    (Aa11 : PySem.W.nsIn K mainGlobals "is_spread_list" = some (some (.ref fa11)))
    (La11 : K.lookup fa11 = some ⟨oca11, oda11, .func (PySem.W.fnOf "is_spread_list" "is_spread_list" (defArgs s_is_spread_list) (defBody s_is_spread_list) (defScope s_is_spread_list) .none kVa11 dca11 pma11 ana11 cda11 cta11), sla11⟩) (Ca11 : PySem.W.codeIn K cda11 "is_spread_list" = true) (Ka11 : PySem.W.keepIn K (.ref fa11) = true)
    (Aa12 : PySem.W.nsIn K mainGlobals "_check_spread" = some (some (.ref fa12)))
    (La12 : K.lookup fa12 = some ⟨oca12, oda12, .func (PySem.W.fnOf "_check_spread" "_check_spread" (defArgs s_check_spread) (defBody s_check_spread) (defScope s_check_spread) .none kVa12 dca12 pma12 ana12 cda12 cta12), sla12⟩) (Ca12 : PySem.W.codeIn K cda12 "_check_spread" = true) (Ka12 : PySem.W.keepIn K (.ref fa12) = true)
    (Aa13 : PySem.W.nsIn K mainGlobals "_check_room" = some (some (.ref fa13)))
    (La13 : K.lookup fa13 = some ⟨oca13, oda13, .func (PySem.W.fnOf "_check_room" "_check_room" (defArgs s_check_room) (defBody s_check_room) (defScope s_check_room) .none kVa13 dca13 pma13 ana13 cda13 cta13), sla13⟩) (Ca13 : PySem.W.codeIn K cda13 "_check_room" = true) (Ka13 : PySem.W.keepIn K (.ref fa13) = true)
    (Aa14 : PySem.W.nsIn K mainGlobals "check_bound" = some (some (.ref fa14)))
    (La14 : K.lookup fa14 = some ⟨oca14, oda14, .func (PySem.W.fnOf "check_bound" "check_bound" (defArgs s_check_bound) (defBody s_check_bound) (defScope s_check_bound) .none kVa14 dca14 pma14 ana14 cda14 cta14), sla14⟩) (Ca14 : PySem.W.codeIn K cda14 "check_bound" = true) (Ka14 : PySem.W.keepIn K (.ref fa14) = true)
    (Aa15 : PySem.W.nsIn K mainGlobals "next_gaps" = some (some (.ref fa15)))
    (La15 : K.lookup fa15 = some ⟨oca15, oda15, .func (PySem.W.fnOf "next_gaps" "next_gaps" (defArgs s_next_gaps) (defBody s_next_gaps) (defScope s_next_gaps) .none kVa15 dca15 pma15 ana15 cda15 cta15), sla15⟩) (Ca15 : PySem.W.codeIn K cda15 "next_gaps" = true) (Ka15 : PySem.W.keepIn K (.ref fa15) = true)
    (Aa16 : PySem.W.nsIn K mainGlobals "_law_is_spread" = some (some (.ref fa16)))
    (La16 : K.lookup fa16 = some ⟨oca16, oda16, .func (PySem.W.fnOf "_law_is_spread" "_law_is_spread" (defArgs s_law_is_spread) (defBody s_law_is_spread) (defScope s_law_is_spread) .none kVa16 dca16 pma16 ana16 cda16 cta16), sla16⟩) (Ca16 : PySem.W.codeIn K cda16 "_law_is_spread" = true) (Ka16 : PySem.W.keepIn K (.ref fa16) = true)
    (Aa17 : PySem.W.nsIn K mainGlobals "_least_gap" = some (some (.ref fa17)))
    (La17 : K.lookup fa17 = some ⟨oca17, oda17, .func (PySem.W.fnOf "_least_gap" "_least_gap" (defArgs s_least_gap) (defBody s_least_gap) (defScope s_least_gap) .none kVa17 dca17 pma17 ana17 cda17 cta17), sla17⟩) (Ca17 : PySem.W.codeIn K cda17 "_least_gap" = true) (Ka17 : PySem.W.keepIn K (.ref fa17) = true)
    (Aa18 : PySem.W.nsIn K mainGlobals "extended" = some (some (.ref fa18)))
    (La18 : K.lookup fa18 = some ⟨oca18, oda18, .func (PySem.W.fnOf "extended" "extended" (defArgs s_extended) (defBody s_extended) (defScope s_extended) .none kVa18 dca18 pma18 ana18 cda18 cta18), sla18⟩) (Ca18 : PySem.W.codeIn K cda18 "extended" = true) (Ka18 : PySem.W.keepIn K (.ref fa18) = true)
    (Aa19 : PySem.W.nsIn K mainGlobals "_law_least" = some (some (.ref fa19)))
    (La19 : K.lookup fa19 = some ⟨oca19, oda19, .func (PySem.W.fnOf "_law_least" "_law_least" (defArgs s_law_least) (defBody s_law_least) (defScope s_law_least) .none kVa19 dca19 pma19 ana19 cda19 cta19), sla19⟩) (Ca19 : PySem.W.codeIn K cda19 "_law_least" = true) (Ka19 : PySem.W.keepIn K (.ref fa19) = true)
    (z_len : PySem.W.nsIn K mainGlobals "len" = some none)
    (z_isinstance : PySem.W.nsIn K mainGlobals "isinstance" = some none)
    (z_int : PySem.W.nsIn K mainGlobals "int" = some none)
    (z_bool : PySem.W.nsIn K mainGlobals "bool" = some none)
    (z_list : PySem.W.nsIn K mainGlobals "list" = some none)
    (z_tuple : PySem.W.nsIn K mainGlobals "tuple" = some none)
    (z_str : PySem.W.nsIn K mainGlobals "str" = some none)
    (z_all : PySem.W.nsIn K mainGlobals "all" = some none)
    (z_range : PySem.W.nsIn K mainGlobals "range" = some none)
    (z_divmod : PySem.W.nsIn K mainGlobals "divmod" = some none)
    (z_sum : PySem.W.nsIn K mainGlobals "sum" = some none)
    (z_max : PySem.W.nsIn K mainGlobals "max" = some none)
    (z_min : PySem.W.nsIn K mainGlobals "min" = some none)
    (z_sorted : PySem.W.nsIn K mainGlobals "sorted" = some none)
    (z_set : PySem.W.nsIn K mainGlobals "set" = some none)
    (z_any : PySem.W.nsIn K mainGlobals "any" = some none)
    (z_enumerate : PySem.W.nsIn K mainGlobals "enumerate" = some none)
    (zcmb : PySem.W.nsIn K mainGlobals "combinations" = some (some (.type "itertools.combinations")))
    (c_tMG : PySem.W.nsIn K mainGlobals "_MOST_GAPS" = some (some (.int 12 tMG)))
    (c_tWG : PySem.W.nsIn K mainGlobals "_WIDEST_GAP" = some (some (.int 2000 tWG))) :
    ∃ fd : FuncData, (∀ (s : Shared) (v : Value), BindsTo s fd ⟨[v], []⟩ [("_law_script", v)]) ∧ ∀ base : Heap, K.In base → base.Ns mainGlobals mg → FnOk l.prog w K mg base CX0 6 fa fd ["_law_script"] (spLaw K) := by
  have e := hfa.symm.trans (PySem.W.mg_of X G Aa0)
  cases e
  have T : Txt K mg 0 := ⟨PySem.W.mg_none_of X G z_len, PySem.W.mg_none_of X G z_isinstance, PySem.W.mg_none_of X G z_int, PySem.W.mg_none_of X G z_bool, PySem.W.mg_none_of X G z_list, PySem.W.mg_none_of X G z_tuple, PySem.W.mg_none_of X G z_str, PySem.W.mg_none_of X G z_all, PySem.W.mg_none_of X G z_range, PySem.W.mg_none_of X G z_divmod, PySem.W.mg_none_of X G z_sum, PySem.W.mg_none_of X G z_max, PySem.W.mg_none_of X G z_min, PySem.W.mg_none_of X G z_sorted, PySem.W.mg_none_of X G z_set, PySem.W.mg_none_of X G z_any, PySem.W.mg_none_of X G z_enumerate, hlong⟩
  have Fa0 := fun_mk (st := s_law) La0 Ca0 Ka0
  have Fa1 := fun_mk (st := s_is_integer) La1 Ca1 Ka1
  have Fa2 := fun_mk (st := s_are_gaps) La2 Ca2 Ka2
  have Fa3 := fun_mk (st := s_sums) La3 Ca3 Ka3
  have Fa4 := fun_mk (st := s_law_source_of) La4 Ca4 Ka4
  have Fa5 := fun_mk (st := s_law_next) La5 Ca5 Ka5
  have Fa6 := fun_mk (st := s_law_one) La6 Ca6 Ka6
  have Fa7 := fun_mk (st := s_law_cell_at) La7 Ca7 Ka7
  have Fa8 := fun_mk (st := s_differences) La8 Ca8 Ka8
  have Fa9 := fun_mk (st := s_ways_back) La9 Ca9 Ka9
  have Fa10 := fun_mk (st := s_fits) La10 Ca10 Ka10
  have Fa11 := fun_mk (st := s_is_spread_list) La11 Ca11 Ka11
  have Fa12 := fun_mk (st := s_check_spread) La12 Ca12 Ka12
  have Fa13 := fun_mk (st := s_check_room) La13 Ca13 Ka13
  have Fa14 := fun_mk (st := s_check_bound) La14 Ca14 Ka14
  have Fa15 := fun_mk (st := s_next_gaps) La15 Ca15 Ka15
  have Fa16 := fun_mk (st := s_law_is_spread) La16 Ca16 Ka16
  have Fa17 := fun_mk (st := s_least_gap) La17 Ca17 Ka17
  have Fa18 := fun_mk (st := s_extended) La18 Ca18 Ka18
  have Fa19 := fun_mk (st := s_law_least) La19 Ca19 Ka19
  have ba1 := Fa1.binds (ps := ["value"]) fun _ _ _ _ _ _ us hl => match us, hl with | [_], _ => rfl
  have ga1 := PySem.W.mg_of X G Aa1
  have ba2 := Fa2.binds (ps := ["value", "most"]) fun _ _ _ _ _ _ us hl => match us, hl with | [_, _], _ => rfl
  have ga2 := PySem.W.mg_of X G Aa2
  have ba3 := Fa3.binds (ps := ["gaps"]) fun _ _ _ _ _ _ us hl => match us, hl with | [_], _ => rfl
  have ga3 := PySem.W.mg_of X G Aa3
  have ba4 := Fa4.binds (ps := ["_law_cell"]) fun _ _ _ _ _ _ us hl => match us, hl with | [_], _ => rfl
  have ga4 := PySem.W.mg_of X G Aa4
  have ba5 := Fa5.binds (ps := ["_law_source", "_law_many"]) fun _ _ _ _ _ _ us hl => match us, hl with | [_, _], _ => rfl
  have ga5 := PySem.W.mg_of X G Aa5
  have ba6 := Fa6.binds (ps := ["_law_source", "_law_options"]) fun _ _ _ _ _ _ us hl => match us, hl with | [_, _], _ => rfl
  have ga6 := PySem.W.mg_of X G Aa6
  have ba7 := Fa7.binds (ps := ["_law_script", "_law_k"]) fun _ _ _ _ _ _ us hl => match us, hl with | [_, _], _ => rfl
  have ga7 := PySem.W.mg_of X G Aa7
  have ba8 := Fa8.binds (ps := ["gaps"]) fun _ _ _ _ _ _ us hl => match us, hl with | [_], _ => rfl
  have ga8 := PySem.W.mg_of X G Aa8
  have ba9 := Fa9.binds (ps := ["gaps"]) fun _ _ _ _ _ _ us hl => match us, hl with | [_], _ => rfl
  have ga9 := PySem.W.mg_of X G Aa9
  have ba10 := Fa10.binds (ps := ["gap", "ways", "taken"]) fun _ _ _ _ _ _ us hl => match us, hl with | [_, _, _], _ => rfl
  have ga10 := PySem.W.mg_of X G Aa10
  have ba11 := Fa11.binds (ps := ["gaps"]) fun _ _ _ _ _ _ us hl => match us, hl with | [_], _ => rfl
  have ga11 := PySem.W.mg_of X G Aa11
  have ba12 := Fa12.binds (ps := ["gaps"]) fun _ _ _ _ _ _ us hl => match us, hl with | [_], _ => rfl
  have ga12 := PySem.W.mg_of X G Aa12
  have ba13 := Fa13.binds (ps := ["gaps", "many"]) fun _ _ _ _ _ _ us hl => match us, hl with | [_, _], _ => rfl
  have ga13 := PySem.W.mg_of X G Aa13
  have ba14 := Fa14.binds (ps := ["part", "value", "low", "high"]) fun _ _ _ _ _ _ us hl => match us, hl with | [_, _, _, _], _ => rfl
  have ga14 := PySem.W.mg_of X G Aa14
  have ba15 := Fa15.binds (ps := ["gaps", "most"]) fun _ _ _ _ _ _ us hl => match us, hl with | [_, _], _ => rfl
  have ga15 := PySem.W.mg_of X G Aa15
  have ba16 := Fa16.binds (ps := ["_law_gaps_here"]) fun _ _ _ _ _ _ us hl => match us, hl with | [_], _ => rfl
  have ga16 := PySem.W.mg_of X G Aa16
  have ba17 := Fa17.binds (ps := ["gaps"]) fun _ _ _ _ _ _ us hl => match us, hl with | [_], _ => rfl
  have ga17 := PySem.W.mg_of X G Aa17
  have ba18 := Fa18.binds (ps := ["gaps", "count"]) fun _ _ _ _ _ _ us hl => match us, hl with | [_, _], _ => rfl
  have ga18 := PySem.W.mg_of X G Aa18
  have ba19 := Fa19.binds (ps := ["_law_gaps_here"]) fun _ _ _ _ _ _ us hl => match us, hl with | [_], _ => rfl
  have ga19 := PySem.W.mg_of X G Aa19

  refine ⟨PySem.W.fnOf "law" "law" (defArgs s_law) (defBody s_law) (defScope s_law) .none kVa0 dca0 pma0 ana0 cda0 cta0, fun s v => .of_eq rfl, fun base _ _ => ?_⟩
  have G0 := ok_isInt (mg := mg) (P := l.prog) (w := w) (base := base) Fa1 T
  have G2 := ok_areGaps (mg := mg) (P := l.prog) (w := w) (base := base) Fa2 T Fa1 ba1 ga1
  have G4 := ok_sums (mg := mg) (P := l.prog) (w := w) (base := base) Fa3
  have G6 := ok_srcOf (mg := mg) (P := l.prog) (w := w) (base := base) Fa4 T
  have G8 := ok_next (mg := mg) (P := l.prog) (w := w) (base := base) Fa5 T
  have G10 := ok_one (mg := mg) (P := l.prog) (w := w) (base := base) Fa6 T Fa5 ba5 ga5
  have G12 := ok_cell (mg := mg) (P := l.prog) (w := w) (base := base) Fa7 T
  have G14 := ok_df (mg := mg) (P := l.prog) (w := w) (base := base) Fa8 (PySem.W.mg_of X G zcmb) G4 ba3 ga3 Ka3
  have G16 := ok_wb (mg := mg) (P := l.prog) (w := w) (base := base) Fa9 G4 ba3 ga3 Ka3
  have G18 := ok_ft (mg := mg) (P := l.prog) (w := w) (base := base) Fa10 T
  have G20 := ok_il (mg := mg) (P := l.prog) (w := w) (base := base) Fa11 T ⟨tMG, PySem.W.mg_of X G c_tMG⟩ G2 ba2 ga2 Ka2 G14 ba8 ga8 Ka8
  have G22 := ok_cs (mg := mg) (P := l.prog) (w := w) (base := base) Fa12 G20 ba11 ga11 Ka11
  have G24 := ok_cr (mg := mg) (P := l.prog) (w := w) (base := base) Fa13 T ⟨tMG, PySem.W.mg_of X G c_tMG⟩
  have G26 := ok_cbH (mg := mg) (P := l.prog) (w := w) (base := base) Fa14 T G0 ba1 ga1 Ka1
  have G28 := ok_ng (mg := mg) (P := l.prog) (w := w) (base := base) Fa15 T ⟨tWG, PySem.W.mg_of X G c_tWG⟩ G22 ba12 ga12 Ka12 G24 ba13 ga13 Ka13 G26 ba14 ga14 Ka14 G16 ba9 ga9 Ka9 G14 ba8 ga8 Ka8 G18 ba10 ga10 Ka10
  have G30 := ok_is (mg := mg) (P := l.prog) (w := w) (base := base) Fa16 T
  have G32 := ok_lg (mg := mg) (P := l.prog) (w := w) (base := base) Fa17 T G16 ba9 ga9 Ka9 G14 ba8 ga8 Ka8 G18 ba10 ga10 Ka10
  have G34 := ok_ex (mg := mg) (P := l.prog) (w := w) (base := base) Fa18 T ⟨tMG, PySem.W.mg_of X G c_tMG⟩ G22 ba12 ga12 Ka12 G24 ba13 ga13 Ka13 G26 ba14 ga14 Ka14 G32 ba17 ga17 Ka17
  have G36 := ok_ll (mg := mg) (P := l.prog) (w := w) (base := base) Fa19 G30 ba16 ga16 Ka16
  exact ok_law (P := l.prog) (w := w) (base := base) Fa0 T Fa18 G12 ba7 ga7 Ka7 G6 ba4 ga4 Ka4 G8 ba5 ga5 Ka5 G10 ba6 ga6 Ka6 G30 ba16 ga16 Ka16 G36 ba19 ga19 Ka19 G34 ba18 ga18 Ka18 G28 ba15 ga15 Ka15
/-- the end of the walk, with what the top left loose -/
theorem walk_x {l : PySem.W.OpenLaw} {q : Program} {loose : List Str} {XP : (Str → Option Value) → Heap → Prop} {YP : World → Heap → Prop} {d : DefRec} {K : Params → PySem.W.Frag} (hn : l.most = some 63) (hdf : d.params.defaults = [])
    (hY : ∀ (w : World) (h : Heap), YP w h → (K w.params).In h)
    (F : ∀ (w : World) (mg : Str → Option Value) (fa : Addr) (h : Heap), (K w.params).In h → h.Ns mainGlobals mg → mg d.name = some (.ref fa) → XP mg h →
      ∃ fd : FuncData, (∀ (s : Shared) (u : Value), BindsTo s fd ⟨[u], []⟩ [("_law_script", u)]) ∧ ∀ base : Heap, (K w.params).In base → base.Ns mainGlobals mg → FnOk l.prog w (K w.params) mg base CX0 6 fa fd ["_law_script"] (spLaw (K w.params))) :
    PySem.W.WalkO q loose XP YP l.row.toRowW d [] (fun f vs => PySem.call f vs) := by
  refine Att.attach_call hn hdf ?_
  intro w _ s1 mg _ fa _ _ _ _ a vs ns G Y _ _ _ hmg hobj hints hlen hg
  obtain ⟨fd, hb, hF⟩ := F w mg fa _ (hY w _ Y) G.T.g hmg G.X
  refine law_call (hY w _ Y) G.T.g G.T.b G.T.builtins G.T.nolimit hg hobj hints ?_ ?_ hF hb ?_ ?_
  · exact Nat.le_trans hlen (by decide)
  · exact ⟨rfl, by decide, by decide⟩
  · exact fun H _ hS => ⟨a, ns, rfl, hS, hlen, fun _ => rfl⟩
  · exact fun H e s' z => z
theorem long_of {p : Program} {mg : Str → Option Value} {h : Heap} (x : PySem.W.XL p [("_LONGEST_GAP", .int 1000000000000)] mg h) : ∃ t, mg "_LONGEST_GAP" = some (.int 1000000000000 t) := by
  obtain ⟨v, e, r⟩ := x.2.val _ (List.mem_singleton.mpr rfl)
  cases r
  exact ⟨_, e⟩
end RS
open PySem PySem.W PyProof.Rows
set_option maxRecDepth 100000 in
set_option maxHeartbeats 0 in
theorem PySem.Challenge.cw_retryslots_k62_lists_extended_by_least_g_holds : PySem.Challenge.rw_retryslots_k62_lists_extended_by_least_g.Holds := by
  w_on; o_law; k_head; (case hw => w_witness2)
  k_fill
  refine RS.walk_x (l := PySem.Challenge.rw_retryslots_k62_lists_extended_by_least_g) rfl rfl (fun w h Y => PySem.W.kIn_of Y) ?F
  case F =>
    intro w mg fa h KX G hmg XX
    refine' RS.all_mk KX G hmg (RS.long_of XX) ?Aa0 ?La0 ?Ca0 ?Ka0 ?Aa1 ?La1 ?Ca1 ?Ka1 ?Aa2 ?La2 ?Ca2 ?Ka2 ?Aa3 ?La3 ?Ca3 ?Ka3 ?Aa4 ?La4 ?Ca4 ?Ka4 ?Aa5 ?La5 ?Ca5 ?Ka5 ?Aa6 ?La6 ?Ca6 ?Ka6 ?Aa7 ?La7 ?Ca7 ?Ka7 ?Aa8 ?La8 ?Ca8 ?Ka8 ?Aa9 ?La9 ?Ca9 ?Ka9 ?Aa10 ?La10 ?Ca10 ?Ka10 ?Aa11 ?La11 ?Ca11 ?Ka11 ?Aa12 ?La12 ?Ca12 ?Ka12 ?Aa13 ?La13 ?Ca13 ?Ka13 ?Aa14 ?La14 ?Ca14 ?Ka14 ?Aa15 ?La15 ?Ca15 ?Ka15 ?Aa16 ?La16 ?Ca16 ?Ka16 ?Aa17 ?La17 ?Ca17 ?Ka17 ?Aa18 ?La18 ?Ca18 ?Ka18 ?Aa19 ?La19 ?Ca19 ?Ka19 ?z_len ?z_isinstance ?z_int ?z_bool ?z_list ?z_tuple ?z_str ?z_all ?z_range ?z_divmod ?z_sum ?z_max ?z_min ?z_sorted ?z_set ?z_any ?z_enumerate ?zcmb ?c_tMG ?c_tWG
    (case Aa0 => k_is)
    (case La0 => k_is)
    (case Ca0 => k_is)
    (case Ka0 => k_is)
    (case Aa1 => k_is)
    (case La1 => k_is)
    (case Ca1 => k_is)
    (case Ka1 => k_is)
    (case Aa2 => k_is)
    (case La2 => k_is)
    (case Ca2 => k_is)
    (case Ka2 => k_is)
    (case Aa3 => k_is)
    (case La3 => k_is)
    (case Ca3 => k_is)
    (case Ka3 => k_is)
    (case Aa4 => k_is)
    (case La4 => k_is)
    (case Ca4 => k_is)
    (case Ka4 => k_is)
    (case Aa5 => k_is)
    (case La5 => k_is)
    (case Ca5 => k_is)
    (case Ka5 => k_is)
    (case Aa6 => k_is)
    (case La6 => k_is)
    (case Ca6 => k_is)
    (case Ka6 => k_is)
    (case Aa7 => k_is)
    (case La7 => k_is)
    (case Ca7 => k_is)
    (case Ka7 => k_is)
    (case Aa8 => k_is)
    (case La8 => k_is)
    (case Ca8 => k_is)
    (case Ka8 => k_is)
    (case Aa9 => k_is)
    (case La9 => k_is)
    (case Ca9 => k_is)
    (case Ka9 => k_is)
    (case Aa10 => k_is)
    (case La10 => k_is)
    (case Ca10 => k_is)
    (case Ka10 => k_is)
    (case Aa11 => k_is)
    (case La11 => k_is)
    (case Ca11 => k_is)
    (case Ka11 => k_is)
    (case Aa12 => k_is)
    (case La12 => k_is)
    (case Ca12 => k_is)
    (case Ka12 => k_is)
    (case Aa13 => k_is)
    (case La13 => k_is)
    (case Ca13 => k_is)
    (case Ka13 => k_is)
    (case Aa14 => k_is)
    (case La14 => k_is)
    (case Ca14 => k_is)
    (case Ka14 => k_is)
    (case Aa15 => k_is)
    (case La15 => k_is)
    (case Ca15 => k_is)
    (case Ka15 => k_is)
    (case Aa16 => k_is)
    (case La16 => k_is)
    (case Ca16 => k_is)
    (case Ka16 => k_is)
    (case Aa17 => k_is)
    (case La17 => k_is)
    (case Ca17 => k_is)
    (case Ka17 => k_is)
    (case Aa18 => k_is)
    (case La18 => k_is)
    (case Ca18 => k_is)
    (case Ka18 => k_is)
    (case Aa19 => k_is)
    (case La19 => k_is)
    (case Ca19 => k_is)
    (case Ka19 => k_is)
    (case z_len => k_is)
    (case z_isinstance => k_is)
    (case z_int => k_is)
    (case z_bool => k_is)
    (case z_list => k_is)
    (case z_tuple => k_is)
    (case z_str => k_is)
    (case z_all => k_is)
    (case z_range => k_is)
    (case z_divmod => k_is)
    (case z_sum => k_is)
    (case z_max => k_is)
    (case z_min => k_is)
    (case z_sorted => k_is)
    (case z_set => k_is)
    (case z_any => k_is)
    (case z_enumerate => k_is)
    (case zcmb => k_is)
    (case c_tMG => k_is)
    (case c_tWG => k_is)

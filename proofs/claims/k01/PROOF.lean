import PyProof.Rows.All
import Wide.All
import OpenK.AllK
import Wide.FinOn
import HandS.ForMost
import HandS.ForExc
import HandS.IsInst
import HandS.Wide
import HandS.TupAny
import HandS.Style
import HandS.TryMany
import HandS.ExcIs
import HandS.ExcField
import HandS.SortInts
import KE.KExcIs
import HandS.ExcInit
import HandS.Ends
import HandS.Conv
import HandS.Evl
import HandS.ExcValue
import HandS.Iter
import HandS.Walk
import PySem.Challenge.RW_groupcaps_k01_limits_and_exceptions
set_option Elab.async false
set_option linter.all false
set_option maxRecDepth 100000
namespace My
open PySem PySem.Spec PyProof.Rows L2
def topS (i : Nat) : Stmt := PySem.Challenge.pw_groupcaps_k01_limits_and_exceptions.main.body.getD i (.Pass ⟨0, 0, 0, 0⟩)
abbrev s_q_deck : Stmt := topS 30
abbrev n_q_deck : List Str := ["_law_script", "_law_cells", "_law_cell"]
abbrev p_q_deck : List Str := ["_law_script"]
theorem sc_q_deck : FnScope n_q_deck p_q_deck (defScope s_q_deck) := ⟨rfl, rfl, rfl, by decide +kernel, rfl, by decide +kernel, by decide +kernel⟩
abbrev s_q_next : Stmt := topS 31
abbrev n_q_next : List Str := ["_law_deck_here", "_law_many", "_law_rest", "_law_cell", "_law_pick"]
abbrev p_q_next : List Str := ["_law_deck_here", "_law_many"]
theorem sc_q_next : FnScope n_q_next p_q_next (defScope s_q_next) := ⟨rfl, rfl, rfl, by decide +kernel, rfl, by decide +kernel, by decide +kernel⟩
abbrev s_q_odd : Stmt := topS 32
abbrev n_q_odd : List Str := ["_law_deck_here", "_law_some"]
abbrev p_q_odd : List Str := ["_law_deck_here"]
theorem sc_q_odd : FnScope n_q_odd p_q_odd (defScope s_q_odd) := ⟨rfl, rfl, rfl, by decide +kernel, rfl, by decide +kernel, by decide +kernel⟩
abbrev s_q_kinds : Stmt := topS 33
abbrev n_q_kinds : List Str := ["_law_error", "_law_found"]
abbrev p_q_kinds : List Str := ["_law_error"]
theorem sc_q_kinds : FnScope n_q_kinds p_q_kinds (defScope s_q_kinds) := ⟨rfl, rfl, rfl, by decide +kernel, rfl, by decide +kernel, by decide +kernel⟩
abbrev s_law : Stmt := topS 34
abbrev n_law : List Str := ["_law_script", "_law_deck_here", "_law_one", "_law_two", "_law_three", "_law_item", "_law_units", "_law_fit", "_law_total", "_law_many", "_law_number", "_law_bad", "_law_moment", "_law_failed", "_law_blocked", "_law_text", "_law_errors", "_law_k", "_law_error", "_law_found", "_law_limits", "_law_j"]
abbrev p_law : List Str := ["_law_script"]
theorem sc_law : FnScope n_law p_law (defScope s_law) := ⟨rfl, rfl, rfl, by decide +kernel, rfl, by decide +kernel, by decide +kernel⟩
/-- what the top leaves -/
structure Txt (K : PySem.W.Frag) (mg : Str → Option Value) where
  a_q_deck : Addr
  d_q_deck : FuncData
  F_q_deck : Fun K "_law_deck" "_law_deck" s_q_deck a_q_deck d_q_deck
  b_q_deck : Binds K d_q_deck p_q_deck []
  g_q_deck : mg "_law_deck" = some (.ref a_q_deck)
  a_q_next : Addr
  d_q_next : FuncData
  F_q_next : Fun K "_law_next" "_law_next" s_q_next a_q_next d_q_next
  b_q_next : Binds K d_q_next p_q_next []
  g_q_next : mg "_law_next" = some (.ref a_q_next)
  a_q_odd : Addr
  d_q_odd : FuncData
  F_q_odd : Fun K "_law_odd" "_law_odd" s_q_odd a_q_odd d_q_odd
  b_q_odd : Binds K d_q_odd p_q_odd []
  g_q_odd : mg "_law_odd" = some (.ref a_q_odd)
  a_q_kinds : Addr
  d_q_kinds : FuncData
  F_q_kinds : Fun K "_law_kinds" "_law_kinds" s_q_kinds a_q_kinds d_q_kinds
  b_q_kinds : Binds K d_q_kinds p_q_kinds []
  g_q_kinds : mg "_law_kinds" = some (.ref a_q_kinds)
  a_law : Addr
  d_law : FuncData
  F_law : Fun K "law" "law" s_law a_law d_law
  b_law : Binds K d_law p_law []
  g_law : mg "law" = some (.ref a_law)
  m_enumerate : mg "enumerate" = none
  m_abs : mg "abs" = none
  m_isinstance : mg "isinstance" = none
  m_repr : mg "repr" = none
  m_len : mg "len" = none
  m_range : mg "range" = none
end My


namespace My
open PySem PySem.Spec PyProof.Rows L2
/-! ### data -/
theorem dp_ints {K : PySem.W.Frag} {H : Hp} : ∀ ns : List Int, DpAll K H (ns.map V.int) (ns.map PyData.int)
  | [] => .nil
  | n :: r => .cons (.int n) (dp_ints r)
theorem lay_ints : ∀ ns : List Int, PyData.canLayAll0 (ns.map PyData.int) = true
  | [] => by simp [PyData.canLayAll0]
  | n :: r => by simp [PyData.canLayAll0, PyData.canLay0, lay_ints r]
theorem deep_ints : ∀ ns : List Int, PyData.depthAll (ns.map PyData.int) = 0
  | [] => by simp [PyData.depthAll]
  | n :: r => by simp [PyData.depthAll, PyData.depth, deep_ints r]
theorem shaped_ints (ns : List Int) : SeqAt.shaped (.list (ns.map PyData.int)) = true := by
  have h1 := lay_ints ns
  have h2 := deep_ints ns
  unfold SeqAt.shaped
  simp [PyData.canLay0, PyData.depth, h1, h2]
theorem eqv_nil (ns : List Int) : PyData.eqv (.list (ns.map PyData.int)) (.list []) = ns.isEmpty := by
  cases ns with
  | nil => simp [PyData.eqv, PyData.eqvAll]
  | cons n r => simp [PyData.eqv, PyData.eqvAll]
theorem upd_keep {H : Hp} {p : Addr} {o : HO} (h : H p = none) {b : Addr} {x : HO} (e : H b = some x) : upd H p o b = some x := by
  rw [upd_ne (ne_of_none e h)]
  exact e
/-! ### the deck -/
structure Dk where
  a : Addr
  l1 : Addr
  l2 : Addr
structure Dk.At (D : Dk) (H : Hp) (c : Nat) (big cells : List Int) : Prop where
  top : H D.a = some (.lst [.ref D.l1, .ref D.l2, .int c])
  one : H D.l1 = some (.lst (big.map V.int))
  two : H D.l2 = some (.lst (cells.map V.int))
  pos : 0 < cells.length
  ne1 : D.a ≠ D.l1
  ne2 : D.a ≠ D.l2
  ne3 : D.l2 ≠ D.l1
/-- the deck stands, at most c draws are mixed ones -/
def Dk.On (D : Dk) (H : Hp) (c : Nat) : Prop := ∃ c' big cells, c' ≤ c ∧ D.At H c' big cells
theorem Dk.On.mono {D : Dk} {H : Hp} {c c' : Nat} (h : D.On H c) (l : c ≤ c') : D.On H c' := by
  obtain ⟨k, b, s, h1, h2⟩ := h
  exact ⟨k, b, s, by omega, h2⟩
/-- all stands but what the deck may change -/
def Keep (D : Dk) (H H' : Hp) : Prop := ∀ b x, H b = some x → b ≠ D.a → b ≠ D.l1 → H' b = some x
theorem Keep.rfl' {D : Dk} {H : Hp} : Keep D H H := fun _ _ e _ _ => e
theorem Keep.trans {D : Dk} {H H1 H2 : Hp} (h : Keep D H H1) (k : Keep D H1 H2) : Keep D H H2 := fun b x e n1 n2 => k b x (h b x e n1 n2) n1 n2
theorem Keep.new {D : Dk} {H : Hp} {p : Addr} {o : HO} (h : H p = none) : Keep D H (upd H p o) := fun _ _ e _ _ => upd_keep h e
theorem Keep.set {D : Dk} {H H' : Hp} {p : Addr} {o : HO} (k : Keep D H H') (h : H p = none) : Keep D H (upd H' p o) := fun b x e n1 n2 => by
  rw [upd_ne (ne_of_none e h)]
  exact k b x e n1 n2
theorem Dk.At.new {D : Dk} {H : Hp} {c : Nat} {big cells : List Int} {p : Addr} {o : HO} (d : D.At H c big cells) (h : H p = none) : D.At (upd H p o) c big cells :=
  ⟨upd_keep h d.top, upd_keep h d.one, upd_keep h d.two, d.pos, d.ne1, d.ne2, d.ne3⟩
theorem Dk.On.new {D : Dk} {H : Hp} {c : Nat} {p : Addr} {o : HO} (d : D.On H c) (h : H p = none) : D.On (upd H p o) c := by
  obtain ⟨k, b, s, h1, h2⟩ := d
  exact ⟨k, b, s, h1, h2.new h⟩
/-- an object that is not the deck's is put anew -/
theorem Dk.On.put {D : Dk} {H : Hp} {c : Nat} {p : Addr} {o : HO} (d : D.On H c) (h1 : p ≠ D.a) (h2 : p ≠ D.l1) (h3 : p ≠ D.l2) : D.On (upd H p o) c := by
  obtain ⟨k, b, s, h, d⟩ := d
  exact ⟨k, b, s, h, by rw [upd_ne h1.symm]; exact d.top, by rw [upd_ne h2.symm]; exact d.one, by rw [upd_ne h3.symm]; exact d.two, d.pos, d.ne1, d.ne2, d.ne3⟩
def sp_q_next : Sp := fun vs H Q _ => ∃ (D : Dk) (c : Nat) (m : Int), vs = [.ref D.a, .int m] ∧ D.On H c ∧ c < 2 ^ 40 ∧ 0 < m ∧ m < 2 ^ 64 ∧
  ∀ H' r, Keep D H H' → D.On H' (c + 1) → 0 ≤ r → r < m → Q (.int r) H'
theorem at0 {α : Type} {x : α} {xs : List α} : atI (x :: xs) 0 = some x := atI_nat (j := 0) rfl
theorem at1 {α : Type} {x y : α} {xs : List α} : atI (x :: y :: xs) 1 = some y := atI_nat (j := 1) rfl
theorem at2 {α : Type} {x y z : α} {xs : List α} : atI (x :: y :: z :: xs) 2 = some z := atI_nat (j := 2) rfl
theorem ix0 {n : Nat} (h : 0 < n) : ixN n 0 = some 0 := by
  unfold ixN
  rw [if_pos (Int.le_refl 0), if_pos (by omega)]
  rfl
theorem ix2 {n : Nat} (h : 2 < n) : ixN n 2 = some 2 := by
  unfold ixN
  rw [if_pos (by decide), if_pos (by omega)]
  rfl
theorem seq0 {n : Nat} (h : 0 < n) : seqIndex? 0 n = some 0 := by
  have := seqIndex_of (k := 0) (n := n) (by omega) (by omega)
  simpa using this
section
variable {P : Program} {w : World} {K : PySem.W.Frag} {mg : Str → Option Value} {base : Heap}
theorem ok_q_next (T : Txt K mg) : FnOk P w K mg base CX0 1 T.a_q_next T.d_q_next p_q_next sp_q_next := by
  refine T.F_q_next.ok sc_q_next (fun vs H Q E h => ?_) (fun cdv A outer s H vs Q E hr h => ?_)
  · obtain ⟨D, c, m, rfl, _⟩ := h
    rfl
  · obtain ⟨D, c, m, rfl, hD, hc, hm, hm2, q⟩ := h
    refine ⟨_, (pss_cons (ps_while PassesOwn.never (pt_cmpR (op_neD hr.units) (pe_ix ix_list (pv 0) pe_int (fun _ _ => rfl)) (pe_lst pa_nil) (nomark _))
(pss_cons (ps_set (i := 2) sc_q_next.nd rfl (.inl rfl) (pe_ix ix_list (pe_ix ix_list (pv 0) pe_int (fun _ _ => rfl)) pe_int (fun _ _ => rfl)))
(pss_cons (ps_if (pt_cmpR op_gt (pv 2) pe_int (nomark _))
(pss_cons (ps_asg (pe_op op_fdivW (pv 2) (pv 1)) (pg_sub (pe_ix ix_list (pv 0) pe_int (fun _ _ => rfl)) pe_int set_list))
(pss_one (ps_ret (pe_op op_mod (pv 2) (pv 1)))))
pss_nil)
(pss_one (ps_expr (pe_bm PySem.F.plainAttrs_list PySem.F.slot_list_pop PySem.F.type_list_pop mt_popAt (pe_ix ix_list (pv 0) pe_int (fun _ _ => rfl)) (pa_cons pe_int pa_nil)))))))
(pss_cons (ps_asg (pe_op op_add (pe_ix ix_list (pv 0) pe_int (fun _ _ => rfl)) pe_int) (pg_sub (pv 0) pe_int set_list))
(pss_cons (ps_set (i := 3) sc_q_next.nd rfl (.inl rfl) (pe_op op_mod (pe_ix ix_list (pe_ix ix_list (pv 0) pe_int (fun _ _ => rfl)) (pe_op op_mod (pe_ix ix_list (pv 0) pe_int (fun _ _ => rfl)) (pe_callB (call_len_seq) (by rfl) T.m_len PySem.boot_len (pa_cons (pe_ix ix_list (pv 0) pe_int (fun _ _ => rfl)) pa_nil))) (fun _ _ => rfl)) pe_int))
(pss_cons (ps_set (i := 4) sc_q_next.nd rfl (.inl rfl) (pe_op op_add (pe_op op_add (pe_op op_mul (pv 3) (pe_op op_add pe_int (pe_op op_mul pe_int (pe_ix ix_list (pv 0) pe_int (fun _ _ => rfl))))) (pe_op op_mul (pe_op op_mul pe_int (pe_ix ix_list (pv 0) pe_int (fun _ _ => rfl))) (pe_ix ix_list (pv 0) pe_int (fun _ _ => rfl)))) pe_int))
(pss_cons (ps_set (i := 4) sc_q_next.nd rfl (.inl rfl) (pe_op op_mod (pv 4) pe_int))
(pss_one (ps_ret (pe_op op_mod (pe_op op_fdiv (pe_op op_mod (pe_op op_mul (pv 4) (pv 4)) pe_int) pe_int) (pv 1))))))))), ?_⟩
    obtain ⟨c0, big0, cells, hcc, dAt⟩ := hD
    refine while_by (fun σ H' => ∃ y2 big, σ = [some (.ref D.a), some (.int m), y2, none, none] ∧ D.At H' c0 big cells ∧ Keep D H H')
      (fun σ H' => match H' D.l1 with | some (.lst xs) => xs.length | _ => 0) ⟨_, big0, rfl, dAt, Keep.rfl'⟩ (fun σ H1 hP => ?_) (fun σ H Q Q' f h => ?_)
    · obtain ⟨y2, big, rfl, d, kp⟩ := hP
      refine ⟨_, rfl, D.a, _, 0, .ref D.l1, rfl, rfl, .inl (.inl d.top), at0, Nat.zero_le _, fun p np => ?_⟩
      have d1 : D.At (upd H1 p (.lst [])) c0 big cells := d.new np
      have kp1 : Keep D H (upd H1 p (.lst [])) := kp.trans (Keep.new np)
      refine ⟨.list (big.map PyData.int), .list [], .lst (.inl (.inl d1.one)) (dp_ints big), .lst (.inl (.inl upd_same)) .nil, shaped_ints big, shaped_ints [], _, rfl, ?_⟩
      rw [eqv_nil]
      cases big with
      | nil =>
        refine iteF ?_
        -- the mixed draw
        refine ⟨_, rfl, D.a, _, 2, .int c0, rfl, rfl, .inl (.inl d1.top), at2, _, _, rfl, rfl, _, rfl, D.a, _, 2, 2, rfl, rfl, d1.top, ix2 (by simp), ?_⟩
        generalize hH2 : upd (upd H1 p (.lst [])) D.a _ = H2
        have d2 : D.At H2 (c0 + 1) [] cells := by
          subst hH2
          exact ⟨by rw [upd_same]; rfl, by rw [upd_ne d.ne1.symm]; exact d1.one, by rw [upd_ne d.ne2.symm]; exact d1.two, d.pos, d.ne1, d.ne2, d.ne3⟩
        have kp2 : Keep D H H2 := by
          subst hH2
          intro b x e n1 n2
          rw [upd_ne n1]
          exact kp1 b x e n1 n2
        have top : SqL K H2 D.a [.ref D.l1, .ref D.l2, .int (c0 + 1 : Nat)] := .inl (.inl d2.top)
        have two : SqL K H2 D.l2 (cells.map V.int) := .inl (.inl d2.two)
        have hl : 0 < (cells.length : Int) := by have := d.pos; omega
        have hj0 : 0 ≤ ((c0 + 1 : Nat) : Int) % (cells.length : Int) := Int.emod_nonneg _ (by omega)
        have hj1 : ((c0 + 1 : Nat) : Int) % (cells.length : Int) < cells.length := Int.emod_lt_of_pos _ hl
        obtain ⟨j, hj⟩ : ∃ j : Nat, ((c0 + 1 : Nat) : Int) % (cells.length : Int) = j := ⟨_, (Int.toNat_of_nonneg hj0).symm⟩
        have hjl : j < cells.length := by omega
        have gj : (cells.map V.int)[j]? = some (.int cells[j]) := by
          rw [List.getElem?_map, List.getElem?_eq_getElem hjl]
          rfl
        refine ⟨_, rfl, D.a, _, 1, .ref D.l2, rfl, rfl, top, at1, _, rfl, D.a, _, 2, .int (c0 + 1 : Nat), rfl, rfl, top, at2, _, rfl, D.a, _, 1, .ref D.l2, rfl, rfl, top, at1, D.l2, _, rfl, .inl two, _, _, rfl, rfl, by rw [List.length_map]; exact hl, ?_⟩
        refine ⟨D.l2, _, _, .int cells[j], rfl, rfl, two, by rw [List.length_map, hj]; exact atI_nat gj, _, _, rfl, rfl, (by show (0 : Int) < 2147483647; decide), ?_⟩
        have hx0 : 0 ≤ cells[j] % 2147483647 := Int.emod_nonneg _ (by decide)
        have hx1 : cells[j] % 2147483647 < 2147483647 := Int.emod_lt_of_pos _ (by decide)
        generalize cells[j] % 2147483647 = x at hx0 hx1
        refine ⟨_, rfl, _, rfl, D.a, _, 2, .int (c0 + 1 : Nat), rfl, rfl, top, at2, _, _, rfl, rfl, .inl ⟨by decide, by decide⟩, _, _, rfl, rfl, _, _, rfl, rfl, .inl ⟨by omega, by omega⟩, ?_⟩
        refine ⟨_, rfl, D.a, _, 2, .int (c0 + 1 : Nat), rfl, rfl, top, at2, _, _, rfl, rfl, .inl ⟨by decide, by decide⟩, _, rfl, D.a, _, 2, .int (c0 + 1 : Nat), rfl, rfl, top, at2, _, _, rfl, rfl, .inl ⟨by omega, by omega⟩, _, _, rfl, rfl, _, _, rfl, rfl, ?_⟩
        refine ⟨_, rfl, _, _, rfl, rfl, (by show (0 : Int) < 2147483629; decide), ?_⟩
        generalize hy : (x * (16807 + 39373 * ((c0 + 1 : Nat) : Int)) + 40692 * ((c0 + 1 : Nat) : Int) * ((c0 + 1 : Nat) : Int) + 97) % (2147483629 : Int) = y
        have hy0 : 0 ≤ y := by rw [← hy]; exact Int.emod_nonneg _ (by decide)
        have hy1 : y < 2147483629 := by rw [← hy]; exact Int.emod_lt_of_pos _ (by decide)
        refine ⟨_, rfl, _, rfl, _, _, rfl, rfl, .inl ⟨by omega, by omega⟩, _, _, rfl, rfl, (by show (0 : Int) < 2147483587; decide), _, _, rfl, rfl, ⟨by decide, by decide⟩, _, rfl, _, _, rfl, rfl, hm, ?_⟩
        exact q H2 _ kp2 ⟨c0 + 1, [], cells, by omega, d2⟩ (Int.emod_nonneg _ (by omega)) (Int.emod_lt_of_pos _ hm)
      | cons b rest =>
        refine iteT ?_
        have top : SqL K (upd H1 p (.lst [])) D.a [.ref D.l1, .ref D.l2, .int c0] := .inl (.inl d1.top)
        have one : SqL K (upd H1 p (.lst [])) D.l1 ((b :: rest).map V.int) := .inl (.inl d1.one)
        refine ⟨_, rfl, D.a, _, 0, .ref D.l1, rfl, rfl, top, at0, D.l1, _, 0, .int b, rfl, rfl, one, at0, ?_⟩
        refine ⟨_, rfl, _, _, rfl, rfl, _, rfl, ite2 (fun e => ?_) (fun e => ?_)⟩
        · refine ⟨_, rfl, _, rfl, _, _, rfl, rfl, wide_div (b := 64) hm (by omega) (by decide) (by decide), ?_⟩
          refine ⟨_, rfl, D.a, _, 0, .ref D.l1, rfl, rfl, top, at0, D.l1, _, 0, 0, rfl, rfl, d1.one, ix0 (by simp), ?_⟩
          refine ⟨_, rfl, _, rfl, _, _, rfl, rfl, hm, ?_⟩
          refine q _ _ ?_ ?_ (Int.emod_nonneg _ (by omega)) (Int.emod_lt_of_pos _ hm)
          · intro z x e n1 n2
            rw [upd_ne n2]
            exact kp1 z x e n1 n2
          · exact ⟨c0, (b / m) :: rest, cells, by omega, by rw [upd_ne d.ne1]; exact d1.top, by rw [upd_same]; rfl, by rw [upd_ne d.ne3]; exact d1.two, d.pos, d.ne1, d.ne2, d.ne3⟩
        · refine ⟨_, rfl, D.a, _, 0, .ref D.l1, rfl, rfl, top, at0, .inl ⟨rfl, _, one⟩, D.l1, _, 0, 0, .int b, rfl, rfl, d1.one, by decide, by decide, seq0 (by simp), rfl, ?_⟩
          refine ⟨⟨_, rest, rfl, ⟨by rw [upd_ne d.ne1]; exact d1.top, by rw [upd_same]; rfl, by rw [upd_ne d.ne3]; exact d1.two, d.pos, d.ne1, d.ne2, d.ne3⟩, ?_⟩, ?_⟩
          · intro z x e n1 n2
            rw [upd_ne n2]
            exact kp1 z x e n1 n2
          · have e1 := d.one
            simp only [upd_same, e1]
            simp
    · obtain ⟨v, hv, p, xs, i, z, e1, e2, hs, ha, hl, h⟩ := h
      refine ⟨v, hv, p, xs, i, z, e1, e2, hs, ha, hl, fun p2 n2 => ?_⟩
      obtain ⟨d, e, a1, a2, a3, a4, k, e5, q⟩ := h p2 n2
      exact ⟨d, e, a1, a2, a3, a4, k, e5, f _ _ q⟩
end
end My

namespace My
open PySem PySem.Spec PyProof.Rows L2
theorem same_new {H : Hp} {p : Addr} {o : HO} (h : H p = none) : Same H (upd H p o) := fun b x e => upd_keep h e
theorem same_set {H H' : Hp} {p : Addr} {o : HO} (k : Same H H') (h : H p = none) : Same H (upd H' p o) := fun b x e => by
  rw [upd_ne (ne_of_none e h)]
  exact k b x e
def absI (n : Int) : Int := if n < 0 then -n else n
def bigs (ns : List Int) : List Int := ns.filter fun n => decide ((1000000000000000000 : Int) ≤ n)
def sp_q_deck (K : PySem.W.Frag) : Sp := fun vs H Q _ => ∃ (a : Addr) (ns : List Int), vs = [.ref a] ∧ SqL K H a (ns.map V.int) ∧ ns.length ≤ 63 ∧
  ∀ (H' : Hp) (D : Dk), Same H H' → H D.a = none → H D.l1 = none → H D.l2 = none → D.On H' 0 → Q (.ref D.a) H'
theorem bigs_take {ns : List Int} {i : Nat} {n : Int} (h : ns[i]? = some n) : bigs (ns.take (i + 1)) = bigs (ns.take i) ++ (if (1000000000000000000 : Int) ≤ n then [n] else []) := by
  unfold bigs
  rw [List.take_add_one, h, List.filter_append]
  by_cases c : (1000000000000000000 : Int) ≤ n
  · simp [c]
  · simp [c]
theorem line63 {n : Nat} (h : n ≤ 1000) : n < sizeLine := small1000 h
theorem le_line {n : Nat} (h : n ≤ 1000) : n ≤ sizeLine := Nat.le_of_lt (small1000 h)
section
variable {P : Program} {w : World} {K : PySem.W.Frag} {mg : Str → Option Value} {base : Heap}
theorem ok_q_deck (T : Txt K mg) : FnOk P w K mg base CX0 1 T.a_q_deck T.d_q_deck p_q_deck (sp_q_deck K) := by
  refine T.F_q_deck.ok sc_q_deck (fun vs H Q E h => ?_) (fun cdv A outer s H vs Q E hr h => ?_)
  · obtain ⟨a, ns, rfl, _⟩ := h
    rfl
  · obtain ⟨a, ns, rfl, hS, hl, q⟩ := h
    refine ⟨_, (pss_cons (ps_setLc (i := 1) (own := [("_law_cell", 2)]) (g := (gName 2)) (tt := tYes) rfl sc_q_deck.nd rfl rfl (sw_true rfl rfl rfl (by decide +kernel)) (pi_list (pv 0)) (blkOk_by (own := [("_law_cell", 2)]) (N := n_q_deck) (sc := defScope s_q_deck) (by decide +kernel)) (fun _ _ _ _ _ => (pg_name (i := 2) sc_q_deck.nd rfl (.inl rfl))) (fun _ _ _ _ _ => pts_nil) (fun _ _ _ _ _ => (pe_callB call_abs (by rfl) T.m_abs (by decide +kernel) (pa_cons (pv 2) pa_nil))))
(pss_one (ps_ret (pe_lst (pa_cons (pe_lc (own := [("_law_cell", 2)]) (g := (gName 2)) (tt := _) rfl sc_q_deck.nd (pi_list (pv 1)) (blkOk_by (own := [("_law_cell", 2)]) (N := n_q_deck) (sc := defScope s_q_deck) (by decide +kernel)) (fun _ _ _ _ _ => (pg_name (i := 2) sc_q_deck.nd rfl (.inl rfl))) (fun _ _ _ _ _ => pts_one (pt_cmpR op_ge (pv 2) (pe_op op_pow pe_int pe_int) (nomark _))) (fun _ _ _ _ _ => (pv 2))) (pa_cons (pe_op op_cat (pv 1) (pe_lst (pa_cons (pe_op op_add (pe_callB (call_len_seq) (by rfl) T.m_len PySem.boot_len (pa_cons (pv 1) pa_nil)) pe_int) pa_nil))) (pa_cons pe_int pa_nil))))))), ?_⟩
    refine ⟨.ref a, rfl, a, rfl, ⟨_, hS⟩, fun C nC => lc_list (K := K) (a := a) (xs := ns.map V.int) (fun i H' => Same H H' ∧ H' C = some (.lst (((ns.take i).map absI).map V.int)))
      ⟨same_new nC, upd_same⟩ (fun i H' _ h => h.1.seq hS) (fun i x H' hx hp => ?_) (fun H1 hp => ?_)⟩
    · obtain ⟨sm, eC⟩ := hp
      rw [List.getElem?_map] at hx
      cases e : ns[i]? with
      | none => rw [e] at hx; cases hx
      | some n =>
        rw [e] at hx
        cases hx
        refine ⟨rfl, ⟨_, rfl, n, rfl, _, eC, ?_, same_set sm nC, ?_⟩⟩
        · rw [List.length_map, List.length_map, List.length_take]
          exact small1000 (by omega)
        · rw [upd_same, List.take_add_one, e, List.map_append, List.map_append]
          rfl
    · obtain ⟨sm, eC⟩ := hp
      rw [List.length_map] at eC
      rw [List.take_length] at eC
      have hC : SqL K H1 C ((ns.map absI).map V.int) := .inl (.inl eC)
      refine ⟨_, rfl, C, rfl, ⟨_, hC⟩, fun B nB => lc_list (K := K) (a := C) (xs := (ns.map absI).map V.int) (fun i H' => Same H1 H' ∧ H' B = some (.lst ((bigs ((ns.map absI).take i)).map V.int)))
        ⟨same_new nB, upd_same⟩ (fun i H' _ h => h.1.seq hC) (fun i x H' hx hp => ?_) (fun H2 hp => ?_)⟩
      · obtain ⟨sm1, eB⟩ := hp
        rw [List.getElem?_map] at hx
        cases e : (ns.map absI)[i]? with
        | none => rw [e] at hx; cases hx
        | some n =>
          rw [e] at hx
          cases hx
          refine ⟨rfl, _, rfl, _, _, rfl, rfl, ⟨by decide, by decide, by decide⟩, _, _, rfl, rfl, _, rfl, ite2 (fun c => ?_) (fun c => ?_)⟩
          · have c' : (1000000000000000000 : Int) ≤ n := of_decide_eq_true c
            refine ⟨_, rfl, _, eB, ?_, same_set sm1 nB, ?_⟩
            · rw [List.length_map]
              have := List.length_filter_le (fun n => decide ((1000000000000000000 : Int) ≤ n)) ((ns.map absI).take i)
              rw [List.length_take, List.length_map] at this
              exact small1000 (by unfold bigs; omega)
            · rw [upd_same, bigs_take e, if_pos c', List.map_append]
              rfl
          · have c' : ¬ (1000000000000000000 : Int) ≤ n := fun z => c (decide_eq_true z)
            refine ⟨sm1, ?_⟩
            rw [bigs_take e, if_neg c', List.append_nil]
            exact eB
      · obtain ⟨sm1, eB⟩ := hp
        have nCB : C ≠ B := ne_of_none eC nB
        refine ⟨_, rfl, _, rfl, C, _, rfl, .inl (sm1.seq hC), _, _, rfl, rfl, le_line (by simp), fun p np => ?_⟩
        refine ⟨C, p, _, _, rfl, rfl, by rw [upd_ne (ne_of_none (sm1 _ _ eC) np)]; exact sm1 _ _ eC, upd_same, ?_, fun r nr => ⟨le_line (by simp), fun D nD => ?_⟩⟩
        · rw [List.length_map, List.length_map]
          exact Nat.le_of_lt (small1000 (by show ns.length + 1 ≤ 1000; omega))
        · have sA : Same H (upd (upd (upd H2 p (.lst [V.int (((ns.map absI).map V.int).length + 3)])) r (.lst ((ns.map absI).map V.int ++ [V.int (((ns.map absI).map V.int).length + 3)]))) D (.lst [.ref B, .ref r, .int 0])) :=
            ((sm.trans sm1).trans (same_new np)).trans ((same_new nr).trans (same_new nD))
          have eBp : (upd H2 p (.lst [V.int (((ns.map absI).map V.int).length + 3)])) B = some (.lst ((bigs (((ns.map absI)).take ((ns.map absI).map V.int).length)).map V.int)) := upd_keep np eB
          have hDB : D ≠ B := (ne_of_none (upd_keep nr eBp) nD).symm
          have hrB : r ≠ B := (ne_of_none eBp nr).symm
          have hDr : D ≠ r := fun z => by
            rw [z, upd_same] at nD
            cases nD
          have nr0 : H r = none := Same.free ((sm.trans sm1).trans (same_new np)) nr
          have nD0 : H D = none := Same.free (((sm.trans sm1).trans (same_new np)).trans (same_new nr)) nD
          have nB0 : H B = none := Same.free sm nB
          refine q _ ⟨D, B, r⟩ sA nD0 nB0 nr0 ⟨0, bigs ((ns.map absI).take ((ns.map absI).map V.int).length), ns.map absI ++ [((((ns.map absI).map V.int).length : Nat) : Int) + 3], Nat.le_refl 0, ?_, ?_, ?_, ?_, hDB, hDr, hrB⟩
          · rw [upd_same]
            rfl
          · rw [upd_ne hDB.symm]
            exact upd_keep nr eBp
          · rw [upd_ne hDr.symm, upd_same, List.map_append]
            rfl
          · rw [List.length_append]
            show 0 < _ + 1
            omega
end
end My

namespace My
open PySem PySem.Spec PyProof.Rows L2
/-! ### data of tuples and flat values -/
mutual
inductive Fz (H : Hp) : V → PyData → Prop
  | non : Fz H .non .none
  | bl (b : Bool) : Fz H (.bl b) (.bool b)
  | int (i : Int) : Fz H (.int i) (.int i)
  | str (x : Str) : Fz H (.str x) (.str x)
  | tup {a : Addr} {xs : List V} {ds : List PyData} : H a = some (.tup xs) → FzAll H xs ds → Fz H (.ref a) (.tuple ds)
inductive FzAll (H : Hp) : List V → List PyData → Prop
  | nil : FzAll H [] []
  | cons {v : V} {vs : List V} {d : PyData} {ds : List PyData} : Fz H v d → FzAll H vs ds → FzAll H (v :: vs) (d :: ds)
end
/-- tuples stand -/
def Tk (H H' : Hp) : Prop := ∀ b xs, H b = some (.tup xs) → H' b = some (.tup xs)
theorem Tk.refl {H : Hp} : Tk H H := fun _ _ e => e
theorem Tk.trans {H H1 H2 : Hp} (h : Tk H H1) (k : Tk H1 H2) : Tk H H2 := fun b x e => k b x (h b x e)
theorem Tk.new {H : Hp} {p : Addr} {o : HO} (h : H p = none) : Tk H (upd H p o) := fun b x e => upd_keep h e
theorem Tk.lst {H : Hp} {p : Addr} {o : HO} {ys : List V} (h : H p = some (.lst ys)) : Tk H (upd H p o) := fun b x e => by
  rw [upd_ne (fun z => by rw [z, h] at e; cases e)]
  exact e
theorem Same.tk {H H' : Hp} (h : Same H H') : Tk H H' := fun b _ e => h b _ e
theorem Keep.tk {D : Dk} {H H' : Hp} {c : Nat} (k : Keep D H H') (d : D.On H c) : Tk H H' := fun b xs e => by
  obtain ⟨_, _, _, _, d⟩ := d
  exact k b _ e (fun z => by rw [z, d.top] at e; cases e) (fun z => by rw [z, d.one] at e; cases e)
mutual
theorem Fz.tk {H H' : Hp} (k : Tk H H') : ∀ {v : V} {d : PyData}, Fz H v d → Fz H' v d
  | _, _, .non => .non
  | _, _, .bl b => .bl b
  | _, _, .int i => .int i
  | _, _, .str x => .str x
  | _, _, .tup e h => .tup (k _ _ e) (FzAll.tk k h)
theorem FzAll.tk {H H' : Hp} (k : Tk H H') : ∀ {v : List V} {d : List PyData}, FzAll H v d → FzAll H' v d
  | _, _, .nil => .nil
  | _, _, .cons h r => .cons (Fz.tk k h) (FzAll.tk k r)
end
theorem FzAll.len {H : Hp} : ∀ {vs : List V} {ds : List PyData}, FzAll H vs ds → vs.length = ds.length
  | _, _, .nil => rfl
  | _, _, .cons _ r => by rw [List.length_cons, List.length_cons, FzAll.len r]
theorem FzAll.get {H : Hp} : ∀ {vs : List V} {ds : List PyData} {i : Nat} {v : V}, FzAll H vs ds → vs[i]? = some v → ∃ d, ds[i]? = some d ∧ Fz H v d
  | _, _, _, _, .nil, e => by cases e
  | _, _, 0, _, .cons h _, e => by
    cases e
    exact ⟨_, rfl, h⟩
  | _, _, i + 1, _, .cons _ r, e => FzAll.get (i := i) r e
theorem FzAll.get2 {H : Hp} : ∀ {vs : List V} {ds : List PyData} {i : Nat} {d : PyData}, FzAll H vs ds → ds[i]? = some d → ∃ v, vs[i]? = some v ∧ Fz H v d
  | _, _, _, _, .nil, e => by cases e
  | _, _, 0, _, .cons h _, e => by
    cases e
    exact ⟨_, rfl, h⟩
  | _, _, i + 1, _, .cons _ r, e => FzAll.get2 (i := i) r e
theorem FzAll.app {H : Hp} : ∀ {vs ws : List V} {ds es : List PyData}, FzAll H vs ds → FzAll H ws es → FzAll H (vs ++ ws) (ds ++ es)
  | _, _, _, _, .nil, k => k
  | _, _, _, _, .cons h r, k => .cons h (FzAll.app r k)
theorem FzAll.one {H : Hp} {v : V} {d : PyData} (h : Fz H v d) : FzAll H [v] [d] := .cons h .nil
theorem Fz.tuple {H : Hp} {v : V} {ds : List PyData} (h : Fz H v (.tuple ds)) : ∃ a xs, v = .ref a ∧ H a = some (.tup xs) ∧ FzAll H xs ds := by
  cases h with
  | tup e k => exact ⟨_, _, rfl, e, k⟩
theorem Fz.intE {H : Hp} {v : V} {i : Int} (h : Fz H v (.int i)) : v = .int i := by
  cases h
  rfl
theorem fz_ints {H : Hp} : ∀ ns : List Int, FzAll H (ns.map V.int) (ns.map PyData.int)
  | [] => .nil
  | n :: r => .cons (.int n) (fz_ints r)
theorem FzAll.ints {H : Hp} : ∀ {vs : List V} {ns : List Int}, FzAll H vs (ns.map PyData.int) → vs = ns.map V.int
  | _, [], .nil => rfl
  | _, n :: r, .cons h k => by
    rw [Fz.intE h, FzAll.ints k]
    rfl
/-! ### any value, beside a deck -/
mutual
inductive Hd (D : Dk) (H : Hp) : V → PyData → Prop
  | non : Hd D H .non .none
  | bl (b : Bool) : Hd D H (.bl b) (.bool b)
  | int (i : Int) : Hd D H (.int i) (.int i)
  | str (x : Str) : Hd D H (.str x) (.str x)
  | tup {a : Addr} {xs : List V} {ds : List PyData} : H a = some (.tup xs) → HdAll D H xs ds → Hd D H (.ref a) (.tuple ds)
  | lst {a : Addr} {xs : List V} {ds : List PyData} : H a = some (.lst xs) → a ≠ D.a → a ≠ D.l1 → HdAll D H xs ds → Hd D H (.ref a) (.list ds)
  | dct {a : Addr} : H a = some (.dK []) → Hd D H (.ref a) (.dict [])
inductive HdAll (D : Dk) (H : Hp) : List V → List PyData → Prop
  | nil : HdAll D H [] []
  | cons {v : V} {vs : List V} {d : PyData} {ds : List PyData} : Hd D H v d → HdAll D H vs ds → HdAll D H (v :: vs) (d :: ds)
end
mutual
theorem Hd.keep {D : Dk} {H H' : Hp} {c : Nat} (o : D.On H c) (k : Keep D H H') : ∀ {v : V} {d : PyData}, Hd D H v d → Hd D H' v d
  | _, _, .non => .non
  | _, _, .bl b => .bl b
  | _, _, .int i => .int i
  | _, _, .str x => .str x
  | _, _, .tup e h => .tup (k.tk o _ _ e) (HdAll.keep o k h)
  | _, _, .lst e n1 n2 h => .lst (k _ _ e n1 n2) n1 n2 (HdAll.keep o k h)
  | _, _, .dct e => .dct (by
      obtain ⟨_, _, _, _, d⟩ := o
      exact k _ _ e (fun z => by rw [z, d.top] at e; cases e) (fun z => by rw [z, d.one] at e; cases e))
theorem HdAll.keep {D : Dk} {H H' : Hp} {c : Nat} (o : D.On H c) (k : Keep D H H') : ∀ {v : List V} {d : List PyData}, HdAll D H v d → HdAll D H' v d
  | _, _, .nil => .nil
  | _, _, .cons h r => .cons (Hd.keep o k h) (HdAll.keep o k r)
end
theorem Same.keep {D : Dk} {H H' : Hp} (h : Same H H') : Keep D H H' := fun b x e _ _ => h b x e
theorem HdAll.app {D : Dk} {H : Hp} : ∀ {vs ws : List V} {ds es : List PyData}, HdAll D H vs ds → HdAll D H ws es → HdAll D H (vs ++ ws) (ds ++ es)
  | _, _, _, _, .nil, k => k
  | _, _, _, _, .cons h r, k => .cons h (HdAll.app r k)
theorem HdAll.len {D : Dk} {H : Hp} : ∀ {vs : List V} {ds : List PyData}, HdAll D H vs ds → vs.length = ds.length
  | _, _, .nil => rfl
  | _, _, .cons _ r => by rw [List.length_cons, List.length_cons, HdAll.len r]
theorem HdAll.get {D : Dk} {H : Hp} : ∀ {vs : List V} {ds : List PyData} {i : Nat} {v : V}, HdAll D H vs ds → vs[i]? = some v → ∃ d, ds[i]? = some d ∧ Hd D H v d
  | _, _, _, _, .nil, e => by cases e
  | _, _, 0, _, .cons h _, e => by
    cases e
    exact ⟨_, rfl, h⟩
  | _, _, i + 1, _, .cons _ r, e => HdAll.get (i := i) r e
mutual
theorem Fz.hd {D : Dk} {H : Hp} : ∀ {v : V} {d : PyData}, Fz H v d → Hd D H v d
  | _, _, .non => .non
  | _, _, .bl b => .bl b
  | _, _, .int i => .int i
  | _, _, .str x => .str x
  | _, _, .tup e h => .tup e (FzAll.hd h)
theorem FzAll.hd {D : Dk} {H : Hp} : ∀ {v : List V} {d : List PyData}, FzAll H v d → HdAll D H v d
  | _, _, .nil => .nil
  | _, _, .cons h r => .cons (Fz.hd h) (FzAll.hd r)
end
theorem Dk.On.at_ne {D : Dk} {H : Hp} {c : Nat} {p : Addr} (d : D.On H c) (h : H p = none) : p ≠ D.a ∧ p ≠ D.l1 ∧ p ≠ D.l2 := by
  obtain ⟨_, _, _, _, d⟩ := d
  exact ⟨(ne_of_none d.top h).symm, (ne_of_none d.one h).symm, (ne_of_none d.two h).symm⟩
theorem Keep.free {D : Dk} {H H' : Hp} {c' : Nat} {p : Addr} (k : Keep D H H') (d : D.On H' c') (h : H' p = none) : H p = none := by
  cases e : H p with
  | none => rfl
  | some x =>
    obtain ⟨n1, n2, _⟩ := d.at_ne h
    have := k p x e n1 n2
    rw [h] at this
    cases this
theorem Dk.On.same {D : Dk} {H H' : Hp} {c : Nat} (d : D.On H c) (k : Same H H') : D.On H' c := by
  obtain ⟨c', b, s, h1, d⟩ := d
  exact ⟨c', b, s, h1, k _ _ d.top, k _ _ d.one, k _ _ d.two, d.pos, d.ne1, d.ne2, d.ne3⟩
/-- an item at a drawn place -/
theorem at_of {α : Type} {xs : List α} {r : Int} {n : Nat} (h : xs.length = n) (h0 : 0 ≤ r) (h1 : r < n) : ∃ v, atI xs r = some v ∧ xs[r.toNat]? = some v := by
  have hl : r.toNat < xs.length := by omega
  refine ⟨xs[r.toNat], ?_, List.getElem?_eq_getElem hl⟩
  have := atI_nat (xs := xs) (j := r.toNat) (List.getElem?_eq_getElem hl)
  rw [Int.toNat_of_nonneg h0] at this
  exact this
end My

namespace My
open PySem PySem.Spec PyProof.Rows L2
section
variable {X : Cx} {es : List Expr} {t : TA} {pos : Pos} {p q : Pos}
/-- what is asked may be weakened -/
def clo (t : TA) : TA := fun σ H Q => ∃ Q0 : List V → Hp → Prop, t σ H Q0 ∧ ∀ xs H1, Q0 xs H1 → Q xs H1
theorem pa_clo (h : PA X es t) : PA X es (clo t) := ⟨fun pos pins s σ H Q I hq => by
  obtain ⟨Q0, h0, h1⟩ := hq
  exact thn (h.run pos pins s σ H Q0 I h0) fun us s1 ⟨xs, H1, I1, r, z⟩ => ⟨xs, H1, I1, r, h1 _ _ z⟩⟩
/-- a list, a tuple, written: the new heap by what is known of it -/
def tLstF (t : TA) : TE := fun σ H Q => t σ H fun xs H1 => xs.length ≤ 1000 ∧ ∀ p H2, H1 p = none → Same H1 H2 → H2 p = some (.lst xs) → Q (.ref p) H2
def tTupF (t : TA) : TE := fun σ H Q => t σ H fun xs H1 => xs.length ≤ 1000 ∧ ∀ p H2, H1 p = none → Same H1 H2 → H2 p = some (.tup xs) → Q (.ref p) H2
theorem pe_lstF (h : PA X es t) : PE X (.List es pos) (tLstF t) := ⟨fun pins s σ H Q I hq =>
  (pe_lst (pa_clo h)).run pins s σ H Q I ⟨_, hq, fun xs H1 hx => ⟨le_line hx.1, fun p np => hx.2 p _ np (same_new np) upd_same⟩⟩⟩
theorem pe_tupF {k : Nat} (h : PA X es t) : PE X (.Tuple es k pos) (tTupF t) := ⟨fun pins s σ H Q I hq =>
  (pe_tup (pa_clo h)).run pins s σ H Q I ⟨_, hq, fun xs H1 hx => ⟨le_line hx.1, fun p np => hx.2 p _ np (same_new np) upd_same⟩⟩⟩
def tDctF : TE := fun _ H Q => ∀ p H2, H p = none → Same H H2 → H2 p = some (.dK []) → Q (.ref p) H2
theorem pe_dctF : PE X (.Dict [] [] pos) tDctF := ⟨fun pins s σ H Q I hq => pe_dnewK.run pins s σ H Q I fun p np => hq p _ np (same_new np) upd_same⟩
/-- xs + ys, lists -/
def rCatF : R2 := fun x y H Q => ∃ l b xs zs, x = .ref l ∧ y = .ref b ∧ H l = some (.lst xs) ∧ H b = some (.lst zs) ∧ xs.length + zs.length ≤ 1000 ∧ ∀ p H2, H p = none → Same H H2 → H2 p = some (.lst (xs ++ zs)) → Q (.ref p) H2
theorem op_catF : OpR X (binaryOp .Add) rCatF := fun pins s σ H x y v u Q I rx ry h => by
  obtain ⟨l, b, xs, zs, e1, e2, h1, h2, h3, q⟩ := h
  exact op_cat pins s σ H x y v u Q I rx ry ⟨l, b, xs, zs, e1, e2, h1, h2, le_line h3, fun p np => q p _ np (same_new np) upd_same⟩
/-- list(xs), tuple(xs) -/
def rListF : List V → Hp → VK → Prop := fun xs H Q => ∃ p ys, xs = [.ref p] ∧ (H p = some (.lst ys) ∨ H p = some (.tup ys)) ∧ ∀ l H2, H l = none → Same H H2 → H2 l = some (.lst ys) → Q (.ref l) H2
theorem call_listF : CallR X (.type "list") rListF := fun pins s σ H xs us Q I r h => by
  obtain ⟨p, ys, e, h1, q⟩ := h
  exact call_list_of pins s σ H xs us Q I r ⟨p, ys, e, h1.imp (fun z => .inl (.inl z)) (fun z => .inl (.inl z)), fun l nl => q l _ nl (same_new nl) upd_same⟩
def rTupF : List V → Hp → VK → Prop := fun xs H Q => ∃ p ys, xs = [.ref p] ∧ H p = some (.lst ys) ∧ ∀ l H2, H l = none → Same H H2 → H2 l = some (.tup ys) → Q (.ref l) H2
theorem call_tupF : CallR X (.type "tuple") rTupF := fun pins s σ H xs us Q I r h => by
  obtain ⟨p, ys, e, h1, q⟩ := h
  exact call_tuple_of pins s σ H xs us Q I r ⟨p, ys, e, .inl ⟨.inl (.inl h1), fun l nl => q l _ nl (same_new nl) upd_same⟩⟩
/-- xs[a:b], lists -/
def rSlF : V → Option Int → Option Int → Hp → VK → Prop := fun x lo hi H Q => ∃ a xs, x = .ref a ∧ H a = some (.lst xs) ∧ ∀ p H2, H p = none → Same H H2 → H2 p = some (.lst (cutV xs lo hi)) → Q (.ref p) H2
theorem sl_listF : SlR X rSlF := fun pins s σ H x v vl vu lo hi sl Q I rx hs pl pu h => by
  obtain ⟨a, xs, e, h1, q⟩ := h
  exact sl_list pins s σ H x v vl vu lo hi sl Q I rx hs pl pu ⟨a, xs, e, .inl (.inl h1), fun p np => q p _ np (same_new np) upd_same⟩
/-- t + u, tuples -/
def rCatTF : R2 := fun x y H Q => ∃ a b xs ys, x = .ref a ∧ y = .ref b ∧ H a = some (.tup xs) ∧ H b = some (.tup ys) ∧ xs ≠ [] ∧ xs.length + ys.length ≤ 1000 ∧
  ∀ p H2, Same H H2 → H2 p = some (.tup (xs ++ ys)) → Q (.ref p) H2
theorem op_catTF : OpR X (binaryOp .Add) rCatTF := fun pins s σ H x y v u Q I rx ry h => by
  obtain ⟨a, b, xs, ys, e1, e2, h1, h2, h3, h4, q⟩ := h
  refine op_catT pins s σ H x y v u Q I rx ry ⟨a, b, xs, ys, e1, e2, .inl (.inl h1), .inl (.inl h2), h3, le_line h4, fun z => ?_, fun _ p np => q p _ (same_new np) upd_same⟩
  subst z
  exact q a H (Same.refl H) (by rw [List.append_nil]; exact h1)
/-- t[a], a tuple's item -/
def rIxF : R2 := fun x y H Q => ∃ p xs i v, x = .ref p ∧ y = .int i ∧ (H p = some (.lst xs) ∨ H p = some (.tup xs)) ∧ atI xs i = some v ∧ Q v H
theorem ix_F : IxR X rIxF := fun value slice pins s σ H x y v u Q I rx ry h => by
  obtain ⟨p, xs, i, z, e1, e2, h1, h2, q⟩ := h
  exact ix_seq value slice pins s σ H x y v u Q I rx ry (h1.elim (fun z1 => .inl ⟨p, xs, i, z, e1, e2, .inl (.inl z1), h2, q⟩) fun z1 => .inr (.inl ⟨p, xs, i, z, e1, e2, .inl (.inl z1), h2, q⟩))
/-- len of a list, a tuple -/
def rLenF : List V → Hp → VK → Prop := fun xs H Q => ∃ p ys, xs = [.ref p] ∧ (H p = some (.lst ys) ∨ H p = some (.tup ys)) ∧ Q (.int (ys.length : Nat)) H
theorem call_lenF : CallR X (.builtin "len") rLenF := fun pins s σ H xs us Q I r h => by
  obtain ⟨p, ys, e, h1, q⟩ := h
  exact call_len_seq pins s σ H xs us Q I r ⟨p, ys, e, h1.imp (fun z => .inl (.inl z)) (fun z => .inl (.inl z)), q⟩
/-- isinstance(x, T), T of the built-in classes -/
def isiD (T : String) : PyData → Bool
  | .none => false
  | .bool _ => T == "int" || T == "bool"
  | .int _ => T == "int"
  | .str _ => T == "str"
  | .list _ => T == "list"
  | .tuple _ => T == "tuple"
  | .dict _ => T == "dict"
def kinds : List String := ["int", "bool", "str", "list", "tuple", "dict"]
def rIsiF (D : Dk) : List V → Hp → VK → Prop := fun xs H Q => ∃ (x : V) (T : String) (d : PyData), xs = [x, .ty T] ∧ T ∈ kinds ∧ Hd D H x d ∧ Q (.bl (isiD T d)) H
theorem hd_ty {D : Dk} {K : PySem.W.Frag} {H : Hp} {x : V} {d : PyData} {T : String} (hT : T ∈ kinds) (h : Hd D H x d) : ∃ t, TyX K H x t ∧ PySem.W.kitOne K t (.type T) = some (isiD T d) := by
  have cases6 : ∀ {Pr : String → Prop}, (∀ S ∈ kinds, Pr S) → Pr T := fun z => z T hT
  cases h with
  | non => exact ⟨_, .base .non, kit_ty (cases6 (Pr := fun T => kitB "NoneType" T = some (isiD T .none)) (by decide +kernel))⟩
  | bl b => exact ⟨_, .base (.bl b), kit_ty (cases6 (Pr := fun T => kitB "bool" T = some (T == "int" || T == "bool")) (by decide +kernel))⟩
  | int i => exact ⟨_, .base (.int i), kit_ty (cases6 (Pr := fun T => kitB "int" T = some (T == "int")) (by decide +kernel))⟩
  | str z => exact ⟨_, .base (.str z), kit_ty (cases6 (Pr := fun T => kitB "str" T = some (T == "str")) (by decide +kernel))⟩
  | tup e _ => exact ⟨_, .base (.tup e), kit_ty (cases6 (Pr := fun T => kitB "tuple" T = some (T == "tuple")) (by decide +kernel))⟩
  | lst e _ _ _ => exact ⟨_, .base (.lst e), kit_ty (cases6 (Pr := fun T => kitB "list" T = some (T == "list")) (by decide +kernel))⟩
  | dct e => exact ⟨_, .base (.dK e), kit_ty (cases6 (Pr := fun T => kitB "dict" T = some (T == "dict")) (by decide +kernel))⟩
theorem call_isiF (D : Dk) : CallR X (.builtin "isinstance") (rIsiF D) := fun pins s σ H xs us Q I r h => by
  obtain ⟨x, T, d, e, hT, hd, q⟩ := h
  obtain ⟨t, h1, h2⟩ := hd_ty (K := X.K) hT hd
  exact call_isi pins s σ H xs us Q I r ⟨x, .ty T, t, .type T, isiD T d, e, .ty T, h1, h2, q⟩
/-- is the datum a whole number -/
def wholeD : PyData → Bool
  | .int _ => true
  | _ => false
end
end My

namespace My
open PySem PySem.Spec PyProof.Rows L2
def oddD : List PyData := [.none, .bool true, .bool false, .int 0, .int 1, .int (-1), .int 2, .int 6, .int 8, .int (10 ^ 12), .int (10 ^ 12 + 1), .int (10 ^ 59), .str "", .str "0", .str "group", .tuple [], .tuple [.int 0],
  .tuple [.int 0, .int 1], .list [], .dict [], .list [.int 0], .tuple [.bool true], .tuple [.tuple []]]
def sp_q_odd : Sp := fun vs H Q _ => ∃ (D : Dk) (c : Nat), vs = [.ref D.a] ∧ D.On H c ∧ c < 2 ^ 40 ∧
  ∀ H' v d, Keep D H H' → D.On H' (c + 1) → Hd D H' v d → d ∈ oddD → Q v H'
section
variable {P : Program} {w : World} {K : PySem.W.Frag} {mg : Str → Option Value} {base : Heap}
theorem ok_q_odd (T : Txt K mg) : FnOk P w K mg base CX0 2 T.a_q_odd T.d_q_odd p_q_odd sp_q_odd := by
  have G_q_next : FnOk P w K mg base CX0 1 T.a_q_next T.d_q_next p_q_next sp_q_next := ok_q_next T
  refine T.F_q_odd.ok sc_q_odd (fun vs H Q E h => ?_) (fun cdv A outer s H vs Q E hr h => ?_)
  · obtain ⟨D, c, rfl, _⟩ := h
    rfl
  · obtain ⟨D, c, rfl, hD, hc, q⟩ := h
    refine ⟨_, (pss_cons (ps_set (i := 1) sc_q_odd.nd rfl (.inl rfl) (pe_lstF (pa_cons pe_non (pa_cons pe_bl (pa_cons pe_bl (pa_cons pe_int (pa_cons pe_int (pa_cons (pe_un un_neg pe_int) (pa_cons pe_int (pa_cons pe_int (pa_cons pe_int (pa_cons (pe_op op_pow pe_int pe_int) (pa_cons (pe_op op_add (pe_op op_pow pe_int pe_int) pe_int) (pa_cons (pe_op op_pow pe_int pe_int) (pa_cons pe_str (pa_cons pe_str (pa_cons pe_str (pa_cons (pe_tupF pa_nil) (pa_cons (pe_tupF (pa_cons pe_int pa_nil)) pa_nil)))))))))))))))))))
(pss_one (ps_ret (pe_ix ix_F (pe_op op_catF (pv 1) (pe_lstF (pa_cons (pe_tupF (pa_cons pe_int (pa_cons pe_int pa_nil))) (pa_cons (pe_lstF pa_nil) (pa_cons pe_dctF (pa_cons (pe_lstF (pa_cons pe_int pa_nil)) (pa_cons (pe_tupF (pa_cons pe_bl pa_nil)) (pa_cons (pe_tupF (pa_cons (pe_tupF pa_nil) pa_nil)) pa_nil)))))))) (pe_call G_q_next (hr.mono (by decide)) (by rfl) T.g_q_next T.F_q_next.kp T.b_q_next .nil pass0 (pa_cons (pv 0) (pa_cons pe_int pa_nil))) (fun _ _ => rfl))))), ?_⟩
    refine ⟨_, rfl, _, _, rfl, rfl, ⟨by decide, by decide, by decide⟩, _, _, rfl, rfl, ⟨by decide, by decide, by decide⟩, _, _, rfl, rfl, _, _, rfl, rfl, ⟨by decide, by decide, by decide⟩, by simp, fun p1 H1 n1 s1 e1 => ?_⟩
    refine ⟨by simp, fun p2 H2 n2 s2 e2 => ⟨by simp, fun p3 H3 n3 s3 e3 => ?_⟩⟩
    refine ⟨_, rfl, by simp, fun p4 H4 n4 s4 e4 => ⟨by simp, fun p5 H5 n5 s5 e5 => fun p6 H6 n6 s6 e6 => ⟨by simp, fun p7 H7 n7 s7 e7 => ⟨by simp, fun p8 H8 n8 s8 e8 => ⟨by simp, fun p9 H9 n9 s9 e9 => ⟨by simp, fun p10 H10 n10 s10 e10 => ⟨by simp, fun p11 H11 n11 s11 e11 => ?_⟩⟩⟩⟩⟩⟩⟩
    have t7 : Same H7 H11 := (s8.trans s9).trans (s10.trans s11)
    have t4 : Same H4 H11 := ((s5.trans s6).trans s7).trans t7
    have t3 : Same H3 H11 := s4.trans t4
    refine ⟨p3, p11, _, _, rfl, rfl, t3 _ _ e3, e11, by simp, fun p H12 np s12 ep => ?_⟩
    have o12 : D.On H12 c := hD.same (((s1.trans s2).trans (s3.trans t3)).trans s12)
    refine ⟨_, rfl, D, c, 23, rfl, o12, hc, by decide, by decide, fun H' r kp hD' h0 h1 => ?_⟩
    have l11 : Same H11 H12 := s12
    have np5 := (hD.same (((s1.trans s2).trans (s3.trans s4)))).at_ne n5
    have np7 := (hD.same (((s1.trans s2).trans (s3.trans s4)).trans (s5.trans s6))).at_ne n7
    have npp := (hD.same (((s1.trans s2).trans (s3.trans t3)))).at_ne np
    have all : HdAll D H12 [.non, .bl true, .bl false, .int 0, .int 1, .int (-1), .int 2, .int 6, .int 8, .int (10 ^ 12), .int (10 ^ 12 + 1), .int (10 ^ 59), .str "", .str "0", .str "group", .ref p1, .ref p2, .ref p4, .ref p5, .ref p6, .ref p7, .ref p8, .ref p10] oddD := by
      have z0 : HdAll D H12 [] [] := .nil
      have f9 : Hd D H12 (.ref p9) (.tuple []) := .tup (l11 _ _ ((s10.trans s11) _ _ e9)) z0
      refine .cons .non (.cons (.bl _) (.cons (.bl _) (.cons (.int _) (.cons (.int _) (.cons (.int _) (.cons (.int _) (.cons (.int _) (.cons (.int _) (.cons (.int _) (.cons (.int _) (.cons (.int _) (.cons (.str _) (.cons (.str _) (.cons (.str _) (.cons (.tup ?_ z0) (.cons (.tup ?_ (.cons (.int _) z0)) (.cons (.tup ?_ (.cons (.int _) (.cons (.int _) z0))) (.cons (.lst ?_ np5.1 np5.2.1 z0) (.cons (.dct ?_) (.cons (.lst ?_ np7.1 np7.2.1 (.cons (.int _) z0)) (.cons (.tup ?_ (.cons (.bl _) z0)) (.cons (.tup ?_ (.cons f9 z0)) z0))))))))))))))))))))))
      · exact l11 _ _ (t3 _ _ (s3 _ _ (s2 _ _ e1)))
      · exact l11 _ _ (t3 _ _ (s3 _ _ e2))
      · exact l11 _ _ (t4 _ _ e4)
      · exact l11 _ _ (t7 _ _ (s7 _ _ (s6 _ _ e5)))
      · exact l11 _ _ (t7 _ _ (s7 _ _ e6))
      · exact l11 _ _ (t7 _ _ e7)
      · exact l11 _ _ ((s9.trans (s10.trans s11)) _ _ e8)
      · exact l11 _ _ (s11 _ _ e10)
    obtain ⟨v, a1, a2⟩ := at_of (xs := [V.non, .bl true, .bl false, .int 0, .int 1, .int (-1), .int 2, .int 6, .int 8, .int (10 ^ 12), .int (10 ^ 12 + 1), .int (10 ^ 59), .str "", .str "0", .str "group", .ref p1, .ref p2, .ref p4, .ref p5, .ref p6, .ref p7, .ref p8, .ref p10]) (n := 23) rfl h0 h1
    obtain ⟨d, b1, b2⟩ := (all.keep o12 kp).get a2
    exact ⟨p, _, r, v, rfl, rfl, .inl (kp _ _ ep npp.1 npp.2.1), a1, q H' v d ((Same.keep (((s1.trans s2).trans (s3.trans t3)).trans s12)).trans kp) hD' b2 (List.mem_of_getElem? b1)⟩
end
end My

namespace My
open PySem PySem.Spec PyProof.Rows L2
section
variable {X : Cx} {pins : List (Addr × Obj)} {σ : L2.St} {H : Hp} {s : Shared} {D : Dk}
theorem dict0 (I : Inv X pins σ H s) {a : Addr} (h : H a = some (.dK [])) : (a == sysModules) = false ∧ ∃ o n, s.heap.get? a = some o ∧ o.cls = .type "dict" ∧ o.data = .dict #[] n := by
  obtain ⟨_, ns, kvs, rel, o, es, ep, e1, e2, e3, e4, e5, _⟩ := (show ObjOk X.prog X.w H s.heap a (.dK []) from I.hok a _ h)
  cases rel
  have e6 : es.toList = [] := by
    cases hq : es.toList with
    | nil => rfl
    | cons x r =>
      rw [hq] at e5
      cases e5
  obtain ⟨l⟩ := es
  have e7 : l = [] := e6
  subst e7
  exact ⟨ns, o, ep, e1, e2.1, e3⟩
/-- what repr gives of a value -/
def Shows (X : Cx) (s : Shared) (u : Value) (d : PyData) : Prop := ∃ as bs, Reads s.heap u d as ∧ ReadAtMost s.heap d.depth bs ∧ ReprK X.prog X.w bs s.heap d.depth u d.shown
def ShowsAll (X : Cx) (s : Shared) (us : List Value) (ds : List PyData) : Prop := ∃ as bs, ReadsAll s.heap us ds as ∧ ReadAtMost s.heap (PyData.depthAll ds) bs ∧ ReprAllK X.prog X.w bs s.heap (PyData.depthAll ds) us (PyData.shownAll ds)
mutual
theorem Hd.shows (I : Inv X pins σ H s) : ∀ (d : PyData) (v : V) (u : Value), Hd D H v d → RelV v u → d.showable = true → d.shown.length ≤ sizeLine → Shows X s u d
  | .none, _, _, h, r, _, _ => by
    cases h
    cases r
    exact ⟨_, [], .none, (fun _ z => nomatch z), by simp only [PyData.shown]; exact .of_is ReprIs.none _ _ _⟩
  | .bool b, _, _, h, r, _, _ => by
    cases h
    cases r
    exact ⟨_, [], .bool b, (fun _ z => nomatch z), by simp only [PyData.shown]; exact .of_is (ReprIs.bool b) _ _ _⟩
  | .int i, _, _, h, r, hs, _ => by
    cases h
    obtain ⟨t, rfl⟩ := r
    exact ⟨_, [], .int i t, (fun _ z => nomatch z), by simp only [PyData.shown]; exact .of_is (ReprIs.int t (by simpa [PyData.showable] using hs)) _ _ _⟩
  | .str x, _, _, h, r, _, hz => by
    cases h
    obtain ⟨t, rfl⟩ := r
    exact ⟨_, [], .str x t, (fun _ z => nomatch z), by simp only [PyData.shown]; exact .of_is (ReprIs.str x t (by simpa only [PyData.shown] using hz)) _ _ _⟩
  | .list ds, _, _, h, r, hs, hz => by
    cases h with
    | @lst a xs _ e n1 n2 k =>
      cases r
      obtain ⟨_, its, n, rv, ho⟩ := (show ObjOk X.prog X.w H s.heap a (.lst xs) from I.hok a _ e)
      have hz2 : (listText (PyData.shownAll ds)).length ≤ sizeLine := by simpa only [PyData.shown] using hz
      obtain ⟨as, bs, rd, rm, kk⟩ := HdAll.shows I ds xs its k rv (by simpa [PyData.showable] using hs) fun t ht => Nat.le_trans (listText_mem_le ht) hz2
      have whole : Reads s.heap (.ref a) (.list ds) _ := .list (vs := its.toArray) ho rfl rfl (by simpa using rd)
      have out : a ∉ bs := not_mem_of_deeper whole (by simp only [PyData.depth]; omega) rm
      refine ⟨_, a :: bs, whole, ReadAtMost.cons whole (by simp only [PyData.depth]; omega) rm, ?_⟩
      simp only [PyData.depth, PyData.shown]
      cases its with
      | nil =>
        cases rd
        simp only [PyData.shownAll, listText_nil]
        exact ReprK.listEmpty ho rfl rfl
      | cons y l => exact ReprK.list ho rfl rfl out (by simpa using kk.length_eq) fun i z ez => kk.item i z (by simpa using ez)
  | .tuple ds, _, _, h, r, hs, hz => by
    cases h with
    | @tup a xs _ e k =>
      cases r
      obtain ⟨_, its, rv, o, ho, hc, n, hd⟩ := (show ObjOk X.prog X.w H s.heap a (.tup xs) from I.hok a _ e)
      have hz2 : (tupleText (PyData.shownAll ds)).length ≤ sizeLine := by simpa only [PyData.shown] using hz
      obtain ⟨as, bs, rd, rm, kk⟩ := HdAll.shows I ds xs its k rv (by simpa [PyData.showable] using hs) fun t ht => Nat.le_trans (tupleText_mem_le ht) hz2
      have whole : Reads s.heap (.ref a) (.tuple ds) _ := .tuple (vs := its.toArray) ho hc hd (by simpa using rd)
      have out : a ∉ bs := not_mem_of_deeper whole (by simp only [PyData.depth]; omega) rm
      refine ⟨_, a :: bs, whole, ReadAtMost.cons whole (by simp only [PyData.depth]; omega) rm, ?_⟩
      simp only [PyData.depth, PyData.shown]
      exact ReprK.tuple ho hc hd out (by simpa using kk)
  | .dict kvs, _, _, h, r, hs, hz => by
    cases h with
    | @dct a e =>
      cases r
      obtain ⟨ns, o, n, ho, hc, hd⟩ := dict0 I e
      have whole : Reads s.heap (.ref a) (.dict []) _ := .dict (es := #[]) ho hc hd .nil .nil
      refine ⟨_, a :: [], whole, ReadAtMost.cons whole (Nat.zero_le _) (fun _ z => nomatch z), ?_⟩
      simp only [PyData.depth, PyData.shown, PyData.shownKv_eq]
      exact ReprK.dict ho hc hd ns (by simp) (ReprEntriesK.of_two [] [] [] .nil .nil)
theorem HdAll.shows (I : Inv X pins σ H s) : ∀ (ds : List PyData) (vs : List V) (us : List Value), HdAll D H vs ds → Vals vs us → PyData.showableAll ds = true → (∀ t ∈ PyData.shownAll ds, t.length ≤ sizeLine) → ShowsAll X s us ds
  | [], _, _, h, r, _, _ => by
    cases h
    cases r
    exact ⟨_, [], .nil, (fun _ z => nomatch z), by simp only [PyData.shownAll]; exact .nil⟩
  | d :: ds, _, _, h, r, hs, hz => by
    cases h with
    | cons h1 h2 =>
      cases r with
      | cons r1 r2 =>
        have hs2 : d.showable = true ∧ PyData.showableAll ds = true := by simpa [PyData.showableAll] using hs
        obtain ⟨as1, bs1, q1, m1, k1⟩ := Hd.shows I d _ _ h1 r1 hs2.1 (hz _ (by simp only [PyData.shownAll]; exact List.mem_cons_self))
        obtain ⟨as2, bs2, q2, m2, k2⟩ := HdAll.shows I ds _ _ h2 r2 hs2.2 fun t ht => hz t (by simp only [PyData.shownAll]; exact List.mem_cons_of_mem _ ht)
        refine ⟨_, bs1 ++ bs2, .cons q1 q2, ?_, ?_⟩
        · simp only [PyData.depthAll]
          exact (m1.mono (Nat.le_max_left _ _)).append (m2.mono (Nat.le_max_right _ _))
        · simp only [PyData.depthAll, PyData.shownAll]
          exact .cons ((k1.more fun b z => List.mem_append_left _ z).level_le (Nat.le_max_left _ _)) (k2.more_le (fun b z => List.mem_append_right _ z) (Nat.le_max_right _ _))
end
end
section
variable {X : Cx}
/-- repr(x) of a list or a tuple -/
def rRepr : List V → Hp → VK → Prop := fun xs H Q => ∃ (D : Dk) (v : V) (ds : List PyData) (d : PyData), (d = .list ds ∨ d = .tuple ds) ∧ xs = [v] ∧ Hd D H v d ∧ d.showable = true ∧ d.depth ≤ 60 ∧ d.shown.length ≤ sizeLine ∧ Q (.str d.shown) H
theorem call_repr (hG : X.A.guards = some []) (hu : X.A.units + 64 < cLine) : CallR X (.builtin "repr") rRepr := by
  intro pins s σ H xs us Q I r h
  obtain ⟨D, v, ds, d, hd, rfl, hv, hs, hdp, hz, q⟩ := h
  obtain ⟨u, rfl, ru⟩ := vals1 r
  rcases hd with rfl | rfl
  · cases hv with
    | @lst a xs _ e n1 n2 k =>
      cases ru
      obtain ⟨_, its, n, rv, ho⟩ := (show ObjOk X.prog X.w H s.heap a (.lst xs) from I.hok a _ e)
      have hz2 : (listText (PyData.shownAll ds)).length ≤ sizeLine := by simpa only [PyData.shown] using hz
      obtain ⟨as, bs, rd, rm, kk⟩ := HdAll.shows I ds xs its k rv (by simpa [PyData.showable] using hs) fun t ht => Nat.le_trans (listText_mem_le ht) hz2
      have whole : Reads s.heap (.ref a) (.list ds) _ := .list (vs := its.toArray) ho rfl rfl (by simpa using rd)
      have out : a ∉ bs := not_mem_of_deeper whole (by simp only [PyData.depth]; omega) rm
      have e1 : (PyData.list ds).depth = PyData.depthAll ds + 1 := by simp only [PyData.depth]
      have e2 : (PyData.list ds).shown = listText (PyData.shownAll ds) := by simp only [PyData.shown]
      rw [e2] at q
      refine call_repr_slot (by omega) ⟨_, ho, rfl⟩ F.slot_list_repr.toG ?_
      cases its with
      | nil =>
        cases rd
        simp only [PyData.shownAll, listText_nil] at q
        exact call_list_repr_empty ⟨_, ho, rfl⟩ ho rfl ⟨_, _, rfl, .str _, H, I.tok _, ⟨_, rfl⟩, q⟩
      | cons y l =>
        exact call_list_reprK (A := X.A.in1) ho rfl rfl out (by simpa using kk.length_eq) (fun i z ez => kk.item i z (by simpa using ez)) hG (fun b _ => Clear.nil b) (by show X.A.units + 1 + _ < cLine; omega) (fun _ _ z => z)
          (fun h' u' tk hk => ⟨_, _, rfl, .str _, H, I.kept hk, ⟨_, rfl⟩, q⟩) hz2
  · cases hv with
    | @tup a xs _ e k =>
      cases ru
      obtain ⟨_, its, rv, o, ho, hc, n, hd⟩ := (show ObjOk X.prog X.w H s.heap a (.tup xs) from I.hok a _ e)
      have hz2 : (tupleText (PyData.shownAll ds)).length ≤ sizeLine := by simpa only [PyData.shown] using hz
      obtain ⟨as, bs, rd, rm, kk⟩ := HdAll.shows I ds xs its k rv (by simpa [PyData.showable] using hs) fun t ht => Nat.le_trans (tupleText_mem_le ht) hz2
      have whole : Reads s.heap (.ref a) (.tuple ds) _ := .tuple (vs := its.toArray) ho hc hd (by simpa using rd)
      have out : a ∉ bs := not_mem_of_deeper whole (by simp only [PyData.depth]; omega) rm
      have e1 : (PyData.tuple ds).depth = PyData.depthAll ds + 1 := by simp only [PyData.depth]
      have e2 : (PyData.tuple ds).shown = tupleText (PyData.shownAll ds) := by simp only [PyData.shown]
      rw [e2] at q
      refine call_repr_slot (by omega) ⟨_, ho, hc⟩ F.slot_tuple_repr ?_
      exact call_tuple_reprK (A := X.A.in1) ho hc hd out (by simpa using kk) hG (fun b _ => Clear.nil b) (by show X.A.units + 1 + _ < cLine; omega) (fun _ _ z => z)
        (fun h' u' tk hk => ⟨_, _, rfl, .str _, H, I.kept hk, ⟨_, rfl⟩, q⟩) hz2
end
end My

namespace My
open PySem PySem.Spec PyProof.Rows L2
/-- as FnOk, where it is called with no guard around -/
def FnG (P : Program) (w : World) (K : PySem.W.Frag) (mg : Str → Option Value) (base : Heap) (CX : CXT) (k : Nat) (f : Addr) (fd : FuncData) (ps : List Str) (sp : Sp) : Prop :=
  ∀ (B : Around) (outer : List Env) (s : Shared) (H : Hp) (args : Args) (us : List Value) (vs : List V) (Q : VK) (E : XK), B.guards = some [] → Room k B → Env0 P w K mg base B outer s H → BindsTo s fd args (ps.zip us) → Vals vs us → sp vs H Q E →
    codeAny (model P w) B (.call (.ref f) args) (CR CX outer P w H s Q E) s
theorem fun_okG {CX : CXT} {P : Program} {w : World} {K : PySem.W.Frag} {mg : Str → Option Value} {base : Heap} {x qual : Str} {st : Stmt} {f : Addr} {fd : FuncData} {N ps : List Str} {k : Nat} {sp : Sp} (F : Fun K x qual st f fd) (S : FnScope N ps (defScope st))
    (len : ∀ vs H Q E, sp vs H Q E → vs.length = ps.length)
    (body : ∀ (cdv : Value) (B : Around) (outer : List Env) (s : Shared) (H : Hp) (vs : List V) (Q : VK) (E : XK), B.guards = some [] → Room k (B.deeper (envOfC qual (defScope st) s.heap.objs.size f cdv)) → sp vs H Q E →
      ∃ t, PSs (cxOf CX P w K mg base N qual (defScope st) f cdv B outer s H E) (defBody st) t ∧ t { nx := fun _ H' => Q .non H', rt := Q } (start N vs) H) : FnG P w K mg base CX (k + 1) f fd ps sp := by
  intro B outer s H args us vs Q E gd hr env hb rel hsp
  obtain ⟨oc, od, kV, doc, pm, an, cdv, ct, osl, rfl, look, isCode⟩ := F.ex
  have many := len _ _ _ _ hsp
  have inK : K.In s.heap := env.mod.kin.keeps fun b o e => (env.bs b o e).1
  have noLim : s.heap.NoLimit := env.mod.nolimit.keeps fun b o e => (env.bs b o e).1
  have kinds : ∀ y ∈ ps.zip us, (defScope st).names.lookup y.1 = some .local ∨ ((defScope st).names.lookup y.1 = some .cell ∧ ((cellsFrom (s.heap.objs.size + 1) (defScope st).names []).lookup y.1).isSome = true) := by
    rintro ⟨n, v⟩ hy
    rcases S.par n (List.of_mem_zip hy).1 with q | q
    · exact .inl q
    · exact .inr ⟨q, PySem.W.cellsFrom_some _ _ _ (.inl q)⟩
  refine codeAny_call_function hr.depth (inK _ _ look) rfl S.co S.gen rfl (PySem.W.codeRec_of inK isCode) (hb _ _ _ _ (wpAny_newFunctionEnv_cells S.kind kinds ?_))
  intro env' he s1 ic
  subst he
  obtain ⟨t, derived, asked⟩ := body cdv B outer s H vs Q E gd (hr.deeper _) hsp
  have I : Inv (cxOf CX P w K mg base N qual (defScope st) f cdv B outer s H E) [] (start N vs) H s1 := inv_start S hr.hd env many rel ic
  refine ⟨noLim.keeps ic.toInCall.keep, codeAny_func (wpAny_mono (derived.run [] s1 (start N vs) H _ I asked) (fun fl s' end_ => ?_) fun e s' z => z)⟩
  cases fl with
  | ret u =>
    obtain ⟨v, σ', H', J, rv, q⟩ := end_
    exact ⟨v, H', J.os, J.bare, J.base, J.hok, rv, q⟩
  | next =>
    obtain ⟨σ', H', J, q⟩ := end_
    exact ⟨V.non, H', J.os, J.bare, J.base, J.hok, (rfl : RelV V.non Value.none), q⟩
  | brk => exact (end_.choose_spec.choose_spec.2 : False).elim
  | cont => exact (end_.choose_spec.choose_spec.2 : False).elim
/-- the law's own call, behind the top -/
theorem callG {P : Program} {w : World} {K : PySem.W.Frag} {mg mb : Str → Option Value} {CX : CXT} {k : Nat} {fa sc : Addr} {fd : FuncData} {x : Str} {sp : Sp} {s₁ : Shared} {us : List Value} {ns : List Int}
    (inK : K.In s₁.heap) (nsG : s₁.heap.Ns mainGlobals mg) (nsB : s₁.heap.Ns builtinsNs mb) (isB : ∀ x : Str, x ≠ "__name__" → mb x = bootBuiltins x) (noLim : s₁.heap.NoLimit) (noGen : s₁.gens = #[])
    (hsc : s₁.heap.get? sc = some { cls := .type "list", data := .seq us.toArray }) (hints : IntsAre us ns) (short : ns.length ≤ sizeLine) (room : Room k callerA)
    (F : ∀ base : Heap, K.In base → base.Ns mainGlobals mg → FnG P w K mg base CX k fa fd [x] sp) (hbind : ∀ (s : Shared) (u : Value), BindsTo s fd ⟨[u], []⟩ [(x, u)])
    (hsp : ∀ H : Hp, SqL K H sc (ns.map V.int) → sp [.ref sc] H (fun v _ => v = .bl true) fun _ _ _ => False) (noE : ∀ H e s', CX [] H s₁ (fun _ _ _ => False) e s' → False) :
    codeAny (model P w) callerA (.call (.ref fa) ⟨[.ref sc], []⟩) (fun r s' => r = .ok (.ret (.bool true)) ∧ OldK s₁.heap s'.heap ∧ s'.os = s₁.os ∧ AllBare s'.gens) s₁ := by
  have rel := vals_ints hints
  have same := hints.length
  -- H tracks at most the script, locked
  have main : ∀ H : Hp, (∀ b, H b = none ∨ (b = sc ∧ K.lookup sc = none ∧ ∃ o xs, H b = some (.frz o (.lst xs)))) → SqL K H sc (ns.map V.int) → HOk P w H s₁.heap →
      codeAny (model P w) callerA (.call (.ref fa) ⟨[.ref sc], []⟩) (fun r s' => r = .ok (.ret (.bool true)) ∧ OldK s₁.heap s'.heap ∧ s'.os = s₁.os ∧ AllBare s'.gens) s₁ := by
    intro H only held ok
    have low : ∀ {b : Addr} {o : Obj}, s₁.heap.get? b = some o → H b = none → (hidT s₁.heap H).get? b = some o := fun e n => hidT_get e n
    have notDict : ∀ {b : Addr} {o : Obj} {es : Array DictEntry} {ep : Nat}, s₁.heap.get? b = some o → o.data = .dict es ep → H b = none := by
      intro b o es ep e d
      rcases only b with z | ⟨z, _, _⟩
      · exact z
      · subst z
        rw [hsc] at e
        cases e
        cases (show Data.seq us.toArray _ = Data.dict es ep from d)
    have nsLow : ∀ {b : Addr} {m : Str → Option Value}, s₁.heap.Ns b m → (hidT s₁.heap H).Ns b m := by
      rintro b m ⟨o, es, ep, e, d, r⟩
      exact ⟨o, es, ep, low e (notDict e d), d, r⟩
    have inLow : K.In (hidT s₁.heap H) := by
      intro b o e
      refine low (inK b o e) ?_
      rcases only b with z | ⟨z, n, _⟩
      · exact z
      · subst z
        rw [n] at e
        cases e
    have md : Mod K mg (hidT s₁.heap H) := ⟨inLow, nsLow nsG, ⟨mb, nsLow nsB, isB⟩, let ⟨mc, q1, q2⟩ := noLim; ⟨mc, nsLow q1, q2⟩⟩
    have env : Env0 P w K mg (hidT s₁.heap H) callerA [] s₁ H := ⟨rfl, md, fun b o e => of_hidT e, Nat.le_of_eq (hidT_size _ _), trivial, fun b hb => absurd (show b ∈ ([] : List Addr) from hb) (by simp), ok, .of_eq noGen⟩
    refine codeAny_mono (F _ inLow (nsLow nsG) callerA [] s₁ H ⟨[.ref sc], []⟩ [.ref sc] [.ref sc] _ _ rfl room env (hbind s₁ (.ref sc)) (.cons rfl .nil) (hsp H held)) ?_
    intro r s' h
    cases r with
    | error e => exact (noE H e s' h).elim
    | ok fl =>
      cases fl with
      | next => exact (h : False).elim
      | brk => exact (h : False).elim
      | cont => exact (h : False).elim
      | ret u =>
        obtain ⟨v, H', os, bare, un, ok', ru, q⟩ := h
        obtain rfl : v = .bl true := q
        obtain rfl : u = Value.bool true := ru
        refine ⟨rfl, OldK.of_keep fun b o e => ?_, os, bare⟩
        rcases only b with z | ⟨_, _, ob, xs, z⟩
        · exact un.keep b o e z (fun y => absurd (show b ∈ ([] : List Addr) from y) (by simp)) (by simp)
        · obtain ⟨e1, _⟩ := ok b _ z
          obtain ⟨e2, _⟩ := ok' b _ (un.frzs b ob _ z)
          rw [e] at e1
          cases e1
          exact e2
  cases hk : K.lookup sc with
  | some o =>
    have e := inK sc o hk
    rw [hsc] at e
    cases e
    exact main (fun _ => none) (fun _ => .inl rfl) (.inr ⟨_, us.toArray, _, hk, rfl, rfl, rfl, by rw [List.size_toArray, same]; exact short, by simpa using rel⟩) (fun b u z => by cases (show (none : Option HO) = some u from z))
  | none =>
    refine main (fun b => if b = sc then some (.frz { cls := .type "list", data := .seq us.toArray } (.lst (ns.map V.int))) else none) (fun b => ?_) (.inl (.inr ⟨{ cls := .type "list", data := .seq us.toArray }, if_pos rfl⟩)) (fun b u z => ?_)
    · by_cases hb : b = sc
      · exact .inr ⟨hb, hk, _, _, if_pos hb⟩
      · exact .inl (if_neg hb)
    · by_cases hb : b = sc
      · cases (if_pos hb).symm.trans z
        subst hb
        exact ⟨hsc, by rw [List.length_map]; exact short, us, _, rel, hsc⟩
      · cases (if_neg hb).symm.trans z
/-- the goal that k_head leaves -/
theorem walkG {l : PySem.W.OpenLaw} {n k : Nat} {q : Program} {loose : List Str} {XP : (Str → Option Value) → Heap → Prop} {YP : World → Heap → Prop} {d : DefRec} {K : Params → PySem.W.Frag} {CX : World → CXT} {sp : World → Sp} {x : Str}
    (most : l.most = some n) (fits : n ≤ sizeLine) (plain : d.params.defaults = []) (room : Room k callerA) (inK : ∀ (w : World) (h : Heap), YP w h → (K w.params).In h)
    (F : ∀ (w : World) (mg : Str → Option Value) (fa : Addr) (h : Heap), (K w.params).In h → h.Ns mainGlobals mg → mg d.name = some (.ref fa) → ∃ fd : FuncData, (∀ (s : Shared) (u : Value), BindsTo s fd ⟨[u], []⟩ [(x, u)]) ∧
      ∀ base : Heap, (K w.params).In base → base.Ns mainGlobals mg → FnG l.prog w (K w.params) mg base (CX w) k fa fd [x] (sp w))
    (hsp : ∀ (w : World) (H : Hp) (a : Addr) (ns : List Int), ns.length ≤ n → SqL (K w.params) H a (ns.map V.int) → sp w [.ref a] H (fun v _ => v = .bl true) fun _ _ _ => False)
    (noE : ∀ (w : World) (H : Hp) (s : Shared) (e : Value) (s' : Shared), CX w [] H s (fun _ _ _ => False) e s' → False) : PySem.W.WalkO q loose XP YP l.row.toRowW d [] (fun f vs => PySem.call f vs) := by
  refine Att.attach_call most plain ?_
  intro w s₀ s₁ mg mb fa o pm cd doc a vs ns G Y ho hd hcd hmg hobj hints len gens
  have KX := inK w _ Y
  obtain ⟨fd, hb, hF⟩ := F w mg fa _ KX G.T.g hmg
  exact callG KX G.T.g G.T.b G.T.builtins G.T.nolimit gens hobj hints (Nat.le_trans len fits) room hF hb (fun H hS => hsp w H a ns len hS) fun H e s' => noE w H s₁ e s'
end My

namespace My
open PySem PySem.Spec PyProof.Rows L2
/-! ### data that repr can show -/
structure Tame (k n : Nat) (d : PyData) : Prop where
  sh : d.showable = true
  dp : d.depth ≤ k
  lv : d.leavesShort 70 = true
  bk : d.bulk ≤ n
theorem Tame.mono {k n k' n' : Nat} {d : PyData} (h : Tame k n d) (h1 : k ≤ k') (h2 : n ≤ n') : Tame k' n' d := ⟨h.sh, Nat.le_trans h.dp h1, h.lv, Nat.le_trans h.bk h2⟩
theorem Tame.fits {k n : Nat} {d : PyData} (h : Tame k n d) (hk : k ≤ 60) (hn : n ≤ 200000) : d.showable = true ∧ d.depth ≤ 60 ∧ d.shown.length ≤ sizeLine := by
  refine ⟨h.sh, Nat.le_trans h.dp hk, ?_⟩
  have := PyData.shown_le_bulk 70 (by decide) d h.lv
  have := h.bk
  rw [sizeLine_eq]
  omega
theorem log_lt {a : Nat} (h : a < 10 ^ 60) : a.log2 < 1920 := by
  by_cases h0 : a = 0
  · subst h0
    decide
  · have : a.log2 < 200 := (Nat.log2_lt h0).mpr (Nat.lt_of_lt_of_le h (by decide))
    omega
theorem tame_int {i : Int} (h : i.natAbs < 10 ^ 60) : Tame 0 0 (.int i) := by
  refine ⟨?_, ?_, ?_, ?_⟩
  · simp only [PyData.showable, decide_eq_true_eq]
    exact log_lt h
  · simp [PyData.depth]
  · have h1 := int_text_length_le10 (k := 60) (by decide) h
    have h2 : (PyData.shown (.int i)).length ≤ 70 := by
      have e : PyData.shown (.int i) = Str.ofString (toString i) := by simp only [PyData.shown]
      rw [e, PySem.ofString_length]
      omega
    simp only [PyData.leavesShort]
    exact decide_eq_true h2
  · simp [PyData.bulk]
theorem tame_str {x : Str} (h1 : x.cps.size ≤ 20) (h2 : (x.cps.toList.all fun c => decide (c < 16 ^ 8)) = true) : Tame 0 20 (.str x) :=
  ⟨by simp [PyData.showable], by simp [PyData.depth], by simpa only [PyData.leavesShort] using h2, by simpa only [PyData.bulk] using h1⟩
theorem tame_all {k n : Nat} : ∀ {ds : List PyData}, (∀ d ∈ ds, Tame k n d) → PyData.showableAll ds = true ∧ PyData.depthAll ds ≤ k ∧ PyData.leavesShortAll 70 ds = true ∧ PyData.bulkAll ds ≤ (n + 1) * ds.length
  | [], _ => ⟨by simp [PyData.showableAll], by simp [PyData.depthAll], by simp [PyData.leavesShortAll], by simp [PyData.bulkAll]⟩
  | d :: ds, h => by
    have h1 := h d List.mem_cons_self
    obtain ⟨a, b, c, e⟩ := tame_all fun x hx => h x (List.mem_cons_of_mem _ hx)
    have h2 := h1.dp
    have h3 := h1.bk
    refine ⟨by simp [PyData.showableAll, h1.sh, a], ?_, by simp [PyData.leavesShortAll, h1.lv, c], ?_⟩
    · simp only [PyData.depthAll]
      omega
    · simp only [PyData.bulkAll, List.length_cons, Nat.mul_add, Nat.mul_one]
      omega
theorem tame_tup {k n l : Nat} {ds : List PyData} (h : ∀ d ∈ ds, Tame k n d) (hl : ds.length ≤ l) : Tame (k + 1) ((n + 1) * l) (.tuple ds) := by
  obtain ⟨a, b, c, e⟩ := tame_all h
  refine ⟨by simpa only [PyData.showable] using a, by simp only [PyData.depth]; omega, by simpa only [PyData.leavesShort] using c, ?_⟩
  simp only [PyData.bulk]
  exact Nat.le_trans e (Nat.mul_le_mul_left _ hl)
theorem tame_lst {k n l : Nat} {ds : List PyData} (h : ∀ d ∈ ds, Tame k n d) (hl : ds.length ≤ l) : Tame (k + 1) ((n + 1) * l) (.list ds) := by
  obtain ⟨a, b, c, e⟩ := tame_all h
  refine ⟨by simpa only [PyData.showable] using a, by simp only [PyData.depth]; omega, by simpa only [PyData.leavesShort] using c, ?_⟩
  simp only [PyData.bulk]
  exact Nat.le_trans e (Nat.mul_le_mul_left _ hl)
theorem tame_odd : ∀ d ∈ oddD, Tame 2 20 d := by
  have z : ∀ d ∈ oddD, d.showable = true ∧ d.depth ≤ 2 ∧ d.leavesShort 70 = true ∧ d.bulk ≤ 20 := by decide +kernel
  exact fun d h => ⟨(z d h).1, (z d h).2.1, (z d h).2.2.1, (z d h).2.2.2⟩
end My

namespace My
open PySem PySem.Spec PyProof.Rows L2
/-! ### own errors as values -/
structure ErrC (K : PySem.W.Frag) (mg : Str → Option Value) (x ql f : Str) (s : Stmt) where
  C : Addr
  fI : Addr
  fd : FuncData
  g : mg x = some (.ref C)
  ox : OexC K C
  iC : PySem.W.findIn K (.ref C) "__init__" = some (some (.ref fI))
  tI : PySem.W.typeIn K (.ref fI) = some (.type "function")
  F : Fun K "__init__" ql s fI fd
  b : Binds K fd ["self", f] []
  no : PySem.W.findIn K (.ref C) f = some none
  xf : XfC K C
  ec : ExcC K C
structure PlainC (K : PySem.W.Frag) (mg : Str → Option Value) (x : Str) where
  C : Addr
  g : mg x = some (.ref C)
  ex : PySem.W.excIn K C [.type "ValueError", .type "Exception", .type "BaseException", .type "object"] "ValueError.__new__" = true
  kC : PySem.W.keepIn K (.ref C) = true
  ec : ExcC K C
def sp_init (K : PySem.W.Frag) (C : Addr) (f : Str) : Sp := fun vs H Q _ => ∃ (a : Addr) (v : V), vs = [.ref a, v] ∧ OexC K C ∧ PySem.W.findIn K (.ref C) f = some none ∧ H a = some (exo a C none) ∧
  ∀ dx, H dx = none → dx ≠ a → Q .non (upd (upd H dx (exd dx [(f, v)])) a (exo a C (some dx)))
/-- the error of the class C with the fields fs is at v -/
def ErrAt (H : Hp) (v : V) (C : Addr) (fs : List (Str × V)) : Prop := ∃ a d, v = .ref a ∧ H a = some (exo a C d) ∧ (d = none ∨ ∃ dx, d = some dx ∧ H dx = some (exd dx fs))
theorem ErrAt.same {H H' : Hp} {v : V} {C : Addr} {fs : List (Str × V)} (h : ErrAt H v C fs) (s : Same H H') : ErrAt H' v C fs := by
  obtain ⟨a, d, rfl, e, h⟩ := h
  exact ⟨a, d, rfl, s _ _ e, h.imp id fun ⟨dx, e1, e2⟩ => ⟨dx, e1, s _ _ e2⟩⟩
def Fld (H : Hp) (v : V) (C : Addr) (f : Str) (x : V) : Prop := ∃ a dx, v = .ref a ∧ H a = some (exo a C (some dx)) ∧ H dx = some (exd dx [(f, x)])
theorem Fld.same {H H' : Hp} {v x : V} {C : Addr} {f : Str} (h : Fld H v C f x) (s : Same H H') : Fld H' v C f x := by
  obtain ⟨a, dx, rfl, e, h⟩ := h
  exact ⟨a, dx, rfl, s _ _ e, s _ _ h⟩
theorem Fld.err {H : Hp} {v x : V} {C : Addr} {f : Str} (h : Fld H v C f x) : ErrAt H v C [(f, x)] := by
  obtain ⟨a, dx, rfl, e, h⟩ := h
  exact ⟨a, _, rfl, e, .inr ⟨dx, rfl, h⟩⟩
section
variable {X : Cx} {o e : Expr} {es : List Expr} {to te : TE} {ta : TA} {f : Str} {p p' p1 p2 pos : Pos}
/-- X(), an error class without __init__, as a value -/
def tNew0 (C : Addr) : TE := fun _ H Q => ∀ v H2, Same H H2 → ErrAt H2 v C [] → Q v H2
theorem pe_new0 {x : Str} (T : PlainC X.K X.mg x) (hg : Gl X x) (hdb : (x == ("__debug__" : Str)) = false := by decide) : PE X (.Call (.Name x p) [] [] pos) (tNew0 T.C) := by
  refine ⟨fun pins s σ H Q I h => ?_⟩
  refine wpAny_Call_Name_kw (ld_glob I hg T.g ?_ hdb)
  refine PySem.W.callWith_K0 I.kIn T.kC ?_
  obtain ⟨bm, N, nm, qn, bs, hdct, sn, sub, ab, col, dd, k0, k1, k2, k3, k5, mN, hC, hN, hni, TT⟩ := exc_obj I.kIn T.ex
  obtain ⟨hp, g, dr, tk, os⟩ := s
  refine wpAny_call_exc_subT PySem.F.excBase_ValueError TT hC hN hni (fun h' a made => ?_) (Nat.zero_le _)
  have hn : H a = none := I.hok.gone made.new
  obtain ⟨t, ht, _, _⟩ := made.there
  exact ⟨.ref a, upd H a (exo a T.C none), I.laidN made.keeps made.new hn (exo_ok ht), rfl, h _ _ (same_new hn) ⟨a, none, rfl, upd_same, .inl rfl⟩⟩
/-- X(e), an error class with an __init__ that stores one field, as a value -/
def tNewF (C : Addr) (f : Str) (ta : TA) : TE := fun σ H Q => ta σ H fun vs H1 => ∃ x, vs = [x] ∧ ∀ v H2, Same H1 H2 → Fld H2 v C f x → Q v H2
theorem pe_newF {x ql : Str} {st : Stmt} (T : ErrC X.K X.mg x ql f st) {k : Nat} (F1 : FnOk X.prog X.w X.K X.mg X.base CX0 k T.fI T.fd ["self", f] (sp_init X.K T.C f)) (hr : Room (k + 1) X.A) (hg : Gl X x) (ha : PA X (e :: es) ta)
    (hdb : (x == ("__debug__" : Str)) = false := by decide) (he : starEach (e :: es) X.env = (false, eval e X.env) :: starEach es X.env := by rfl) (hpl : (backTo pos (starEach es X.env)).any (·.1) = false := by rfl) :
    PE X (.Call (.Name x p) (e :: es) [] pos) (tNewF T.C f ta) := by
  refine ⟨fun pins s σ H Q I h => ?_⟩
  obtain ⟨nm, q, N, bs, bm, sn, sub, ab, col, dd, k0, k1, k2, k3, k5, hC, hbm⟩ := T.ox.cls
  refine wpAny_Call_Name_kw (ld_glob I hg T.g ?_ hdb)
  refine PySem.W.callWith_K (h₀ := X.base) I.ok.mod.kin T.ox.kC (thn (ha.run pos pins s σ H _ I h) fun us s1 ⟨vs, H1, I1, r1, y, ev, q1⟩ => ⟨I1.kIn, ?_⟩) he hpl
  subst ev
  show wpAny _ _ (call (.ref T.C) us) _ _ _
  obtain ⟨hp, g, dr, tk, os⟩ := s1
  have up : hp.objs.size ≤ hp.objs.size + 1 := Nat.le_succ _
  have free : H1 (hp.objs.size + 1) = none := I1.hok.fresh up
  have asked : sp_init X.K T.C f (V.ref (hp.objs.size + 1) :: ([y] ++ [])) (upd H1 (hp.objs.size + 1) (exo (hp.objs.size + 1) T.C none)) (fun v H2 => v = .non ∧ Q (.ref (hp.objs.size + 1)) H2) (fun _ _ _ => False) := by
    refine ⟨hp.objs.size + 1, y, rfl, T.ox, T.no, upd_same, fun dx nd hne => ⟨rfl, q1 _ _ ?_ ⟨_, dx, rfl, upd_same, ?_⟩⟩⟩
    · rw [upd_ne hne] at nd
      intro b z ez
      have n1 : b ≠ dx := ne_of_none ez nd
      have n2 : b ≠ hp.objs.size + 1 := ne_of_none ez free
      rw [upd_ne n2, upd_ne n1, upd_ne n2]
      exact ez
    · rw [upd_ne hne, upd_same]
  have kk : ∀ b o, hp.get? b = some o → ((hp.push (PySem.W.kdv_tup us)).push (PySem.HandSPX.excO T.C hp.objs.size)).get? b = some o := fun b o z => Heap.get?_push_of_some _ (Heap.get?_push_of_some _ z)
  have got : ((hp.push (PySem.W.kdv_tup us)).push (PySem.HandSPX.excO T.C hp.objs.size)).get? (hp.objs.size + 1) = some (PySem.HandSPX.excO T.C hp.objs.size) := by heap_get
  have I2 : Inv X pins σ (upd H1 (hp.objs.size + 1) (exo (hp.objs.size + 1) T.C none)) ⟨(hp.push (PySem.W.kdv_tup us)).push (PySem.HandSPX.excO T.C hp.objs.size), g, dr, tk, os⟩ :=
    I1.laid (t' := tk) (a := hp.objs.size + 1) (o := exo (hp.objs.size + 1) T.C none) (h' := (hp.push (PySem.W.kdv_tup us)).push (PySem.HandSPX.excO T.C hp.objs.size)) kk up (exo_ok got)
  have r2 : Vals (V.ref (hp.objs.size + 1) :: ([y] ++ [])) (Value.ref (hp.objs.size + 1) :: us) := .cons rfl r1
  have hl : (Value.ref (hp.objs.size + 1) :: us ++ []).length = (["self", f] : List Str).length := by
    have z := r1.length
    simp at z ⊢
    omega
  have hus : us.length ≤ sizeLine := by
    have z := r1.length
    simp at z
    rw [← z]
    exact le_line (by decide)
  refine wpAny_call (PySem.HandSPX.call_own F.excBase_ValueError (fun Y => PySem.HandSPX.refsVE_contains Y bm hbm) (I1.kIn _ _ hC) (PySem.W.looks_findIn I1.kIn T.iC) (fun self => PySem.W.bind_fn I1.kIn self T.tI) hus
    (codeAny_mono (F1.run _ X.stack _ _ ⟨Value.ref (hp.objs.size + 1) :: us, []⟩ (Value.ref (hp.objs.size + 1) :: us) _ _ (fun _ _ _ => False) (hr.make T.C us []) (I2.env0.make T.C us []) (by simpa using T.b _ (Value.ref (hp.objs.size + 1) :: us) I2.kIn hl) r2 asked) fun r s' end_ => ?_))
  cases r with
  | error er => exact (end_ : False).elim
  | ok fl =>
    cases fl with
    | ret u =>
      obtain ⟨v, H2, os2, bare2, un2, hok2, rv, ev, q2⟩ := end_
      subst ev
      exact ⟨rv, .ref (hp.objs.size + 1), H2, I2.call' (ch := []) os2 un2 hok2 bare2 (fun b z => absurd z (by simp)), rfl, q2⟩
    | next => exact (end_ : False).elim
    | brk => exact (end_ : False).elim
    | cont => exact (end_ : False).elim
end
end My

namespace My
open PySem PySem.Spec PyProof.Rows L2
section
variable {X : Cx} {pins : List (Addr × Obj)} {σ : L2.St} {H : Hp} {s : Shared}
theorem exo_inst (I : Inv X pins σ H s) {a C : Addr} {fs : List (Str × V)} {d : Option Addr} (h1 : H a = some (exo a C d)) (h2 : d = none ∨ ∃ dx, d = some dx ∧ H dx = some (exd dx fs)) : ∃ ox od, PySem.W.InstAt s.heap a ox C od := by
  obtain ⟨t1, ht⟩ := exo_at I.hok h1
  rcases h2 with rfl | ⟨dx, rfl, hdx⟩
  · exact ⟨_, none, ht, rfl, rfl, trivial⟩
  · obtain ⟨mA, hns, _⟩ := exd_at I.hok hdx
    obtain ⟨o, ho, _⟩ := lookIn_ns hns
    exact ⟨_, some o, ht, rfl, rfl, ho⟩
end
/-- isinstance(e, C), e an error of the program -/
def rIsV (K : PySem.W.Frag) : List V → Hp → VK → Prop := fun xs H Q => ∃ (v c : V) (cv : Value) (C : Addr) (fs : List (Str × V)) (b : Bool), xs = [v, c] ∧ ErrAt H v C fs ∧ ExcC K C ∧ (∀ u, RelV c u → u = cv) ∧ PySem.W.kitOne K (.ref C) cv = some b ∧ Q (.bl b) H
theorem call_isV {X : Cx} : CallR X (.builtin "isinstance") (rIsV X.K) := by
  intro pins s σ H xs us Q I r h
  obtain ⟨v, c, cv, D, fs, b, rfl, hv, C, hc, e, q⟩ := h
  obtain ⟨a, d, rfl, h1, h2⟩ := hv
  obtain ⟨u1, u2, rfl, r1, r2⟩ := vals2 r
  cases (show u1 = Value.ref a from r1)
  obtain rfl := hc _ r2
  obtain ⟨ox, od, J⟩ := exo_inst I h1 h2
  have hcl : (PySem.W.clsIn X.K D).isSome = true := by
    obtain ⟨cd, hc, _⟩ := PySem.W.any_some C.hd
    rw [hc]
    rfl
  have Z := PySem.W.kitx_exc (K := X.K) (x := a) (ox := ox) (od := od) hcl C.hg C.hk C.hs C.ha C.hn C.ht C.hm
  exact PySem.W.kia_one Z I.kIn J e (fun z => nomatch z) fun tk => ⟨.bl b, H, I.tok tk, rfl, q⟩
section
variable {X : Cx} {e : Expr} {te : TE} {pos : Pos} {f : Str}
/-- e.f -/
def tFld (C : Addr) (f : Str) (te : TE) : TE := fun σ H Q => te σ H fun x H1 => ∃ y, Fld H1 x C f y ∧ Q y H1
theorem pe_fld {x ql : Str} {st : Stmt} (T : ErrC X.K X.mg x ql f st) (he : PE X e te) (hb : attributeBase e f X.env (eval e X.env) = eval e X.env := by rfl) : PE X (.Attribute e f pos) (tFld T.C f te) := by
  refine ⟨fun pins s σ H Q I h => ?_⟩
  refine attr_of hb (thn (he.run pins s σ H _ I h) fun u s1 hh => ?_)
  obtain ⟨x, H1, I1, rx, y, ⟨a, dx, rfl, h1, h2⟩, q⟩ := hh
  obtain rfl : u = Value.ref a := rx
  obtain ⟨t1, ht⟩ := exo_at I1.hok h1
  obtain ⟨mA, hns, hr⟩ := exd_at I1.hok h2
  obtain ⟨od, ho, hl⟩ := lookIn_ns hns
  have lk : ([(f, y)] : List (Str × V)).lookup f = some y := by simp [List.lookup]
  obtain ⟨u, hu, ru⟩ := RelO.some_of (v := y) (o := mA f) (by rw [← lk]; exact hr f)
  exact HandSPX.exc_get I1.kIn ⟨ht, rfl, rfl, ho⟩ T.xf.ga T.xf.gg T.xf.exC (PySem.W.findObj_own T.xf.hdC T.no rfl (by rw [hl, hu])) (handed_of ru) ⟨y, H1, I1.tok _, ru, q⟩
end
abbrev sI (i : Nat) : Stmt := inClass (topS i) 0
section
variable {P : Program} {w : World} {K : PySem.W.Frag} {mg : Str → Option Value} {base : Heap}
theorem ok_i2 (T : ErrC K mg "NoItem" "NoItem.__init__" "item" (sI 2)) : FnOk P w K mg base CX0 1 T.fI T.fd ["self", "item"] (sp_init K T.C "item") := by
  have sc : FnScope ["self", "item"] ["self", "item"] (defScope (sI 2)) := ⟨rfl, rfl, rfl, by decide +kernel, rfl, by decide +kernel, by decide +kernel⟩
  refine T.F.ok sc (fun vs H Q E h => ?_) (fun cdv A outer s H vs Q E hr h => ?_)
  · obtain ⟨a, v, rfl, _⟩ := h
    rfl
  · obtain ⟨a, v, rfl, ox, no, ha, q⟩ := h
    refine ⟨_, pss_one (ps_ost (pv 0) (pv 1)), ?_⟩
    exact ⟨_, rfl, _, rfl, a, T.C, rfl, ox, no, .inl ⟨ha, q⟩⟩
theorem ok_i3 (T : ErrC K mg "NoUnits" "NoUnits.__init__" "units" (sI 3)) : FnOk P w K mg base CX0 1 T.fI T.fd ["self", "units"] (sp_init K T.C "units") := by
  have sc : FnScope ["self", "units"] ["self", "units"] (defScope (sI 3)) := ⟨rfl, rfl, rfl, by decide +kernel, rfl, by decide +kernel, by decide +kernel⟩
  refine T.F.ok sc (fun vs H Q E h => ?_) (fun cdv A outer s H vs Q E hr h => ?_)
  · obtain ⟨a, v, rfl, _⟩ := h
    rfl
  · obtain ⟨a, v, rfl, ox, no, ha, q⟩ := h
    refine ⟨_, pss_one (ps_ost (pv 0) (pv 1)), ?_⟩
    exact ⟨_, rfl, _, rfl, a, T.C, rfl, ox, no, .inl ⟨ha, q⟩⟩
theorem ok_i5 (T : ErrC K mg "NoFit" "NoFit.__init__" "contradiction" (sI 5)) : FnOk P w K mg base CX0 1 T.fI T.fd ["self", "contradiction"] (sp_init K T.C "contradiction") := by
  have sc : FnScope ["self", "contradiction"] ["self", "contradiction"] (defScope (sI 5)) := ⟨rfl, rfl, rfl, by decide +kernel, rfl, by decide +kernel, by decide +kernel⟩
  refine T.F.ok sc (fun vs H Q E h => ?_) (fun cdv A outer s H vs Q E hr h => ?_)
  · obtain ⟨a, v, rfl, _⟩ := h
    rfl
  · obtain ⟨a, v, rfl, ox, no, ha, q⟩ := h
    refine ⟨_, pss_one (ps_ost (pv 0) (pv 1)), ?_⟩
    exact ⟨_, rfl, _, rfl, a, T.C, rfl, ox, no, .inl ⟨ha, q⟩⟩
theorem ok_i6 (T : ErrC K mg "NoTotal" "NoTotal.__init__" "total" (sI 6)) : FnOk P w K mg base CX0 1 T.fI T.fd ["self", "total"] (sp_init K T.C "total") := by
  have sc : FnScope ["self", "total"] ["self", "total"] (defScope (sI 6)) := ⟨rfl, rfl, rfl, by decide +kernel, rfl, by decide +kernel, by decide +kernel⟩
  refine T.F.ok sc (fun vs H Q E h => ?_) (fun cdv A outer s H vs Q E hr h => ?_)
  · obtain ⟨a, v, rfl, _⟩ := h
    rfl
  · obtain ⟨a, v, rfl, ox, no, ha, q⟩ := h
    refine ⟨_, pss_one (ps_ost (pv 0) (pv 1)), ?_⟩
    exact ⟨_, rfl, _, rfl, a, T.C, rfl, ox, no, .inl ⟨ha, q⟩⟩
theorem ok_i8 (T : ErrC K mg "TooMany" "TooMany.__init__" "limit" (sI 8)) : FnOk P w K mg base CX0 1 T.fI T.fd ["self", "limit"] (sp_init K T.C "limit") := by
  have sc : FnScope ["self", "limit"] ["self", "limit"] (defScope (sI 8)) := ⟨rfl, rfl, rfl, by decide +kernel, rfl, by decide +kernel, by decide +kernel⟩
  refine T.F.ok sc (fun vs H Q E h => ?_) (fun cdv A outer s H vs Q E hr h => ?_)
  · obtain ⟨a, v, rfl, _⟩ := h
    rfl
  · obtain ⟨a, v, rfl, ox, no, ha, q⟩ := h
    refine ⟨_, pss_one (ps_ost (pv 0) (pv 1)), ?_⟩
    exact ⟨_, rfl, _, rfl, a, T.C, rfl, ox, no, .inl ⟨ha, q⟩⟩
theorem ok_i11 (T : ErrC K mg "NoNumber" "NoNumber.__init__" "number" (sI 11)) : FnOk P w K mg base CX0 1 T.fI T.fd ["self", "number"] (sp_init K T.C "number") := by
  have sc : FnScope ["self", "number"] ["self", "number"] (defScope (sI 11)) := ⟨rfl, rfl, rfl, by decide +kernel, rfl, by decide +kernel, by decide +kernel⟩
  refine T.F.ok sc (fun vs H Q E h => ?_) (fun cdv A outer s H vs Q E hr h => ?_)
  · obtain ⟨a, v, rfl, _⟩ := h
    rfl
  · obtain ⟨a, v, rfl, ox, no, ha, q⟩ := h
    refine ⟨_, pss_one (ps_ost (pv 0) (pv 1)), ?_⟩
    exact ⟨_, rfl, _, rfl, a, T.C, rfl, ox, no, .inl ⟨ha, q⟩⟩
theorem ok_i13 (T : ErrC K mg "BadSystem" "BadSystem.__init__" "error" (sI 13)) : FnOk P w K mg base CX0 1 T.fI T.fd ["self", "error"] (sp_init K T.C "error") := by
  have sc : FnScope ["self", "error"] ["self", "error"] (defScope (sI 13)) := ⟨rfl, rfl, rfl, by decide +kernel, rfl, by decide +kernel, by decide +kernel⟩
  refine T.F.ok sc (fun vs H Q E h => ?_) (fun cdv A outer s H vs Q E hr h => ?_)
  · obtain ⟨a, v, rfl, _⟩ := h
    rfl
  · obtain ⟨a, v, rfl, ox, no, ha, q⟩ := h
    refine ⟨_, pss_one (ps_ost (pv 0) (pv 1)), ?_⟩
    exact ⟨_, rfl, _, rfl, a, T.C, rfl, ox, no, .inl ⟨ha, q⟩⟩
theorem ok_i15 (T : ErrC K mg "NoMoment" "NoMoment.__init__" "at" (sI 15)) : FnOk P w K mg base CX0 1 T.fI T.fd ["self", "at"] (sp_init K T.C "at") := by
  have sc : FnScope ["self", "at"] ["self", "at"] (defScope (sI 15)) := ⟨rfl, rfl, rfl, by decide +kernel, rfl, by decide +kernel, by decide +kernel⟩
  refine T.F.ok sc (fun vs H Q E h => ?_) (fun cdv A outer s H vs Q E hr h => ?_)
  · obtain ⟨a, v, rfl, _⟩ := h
    rfl
  · obtain ⟨a, v, rfl, ox, no, ha, q⟩ := h
    refine ⟨_, pss_one (ps_ost (pv 0) (pv 1)), ?_⟩
    exact ⟨_, rfl, _, rfl, a, T.C, rfl, ox, no, .inl ⟨ha, q⟩⟩
theorem ok_i17 (T : ErrC K mg "Failed" "Failed.__init__" "index" (sI 17)) : FnOk P w K mg base CX0 1 T.fI T.fd ["self", "index"] (sp_init K T.C "index") := by
  have sc : FnScope ["self", "index"] ["self", "index"] (defScope (sI 17)) := ⟨rfl, rfl, rfl, by decide +kernel, rfl, by decide +kernel, by decide +kernel⟩
  refine T.F.ok sc (fun vs H Q E h => ?_) (fun cdv A outer s H vs Q E hr h => ?_)
  · obtain ⟨a, v, rfl, _⟩ := h
    rfl
  · obtain ⟨a, v, rfl, ox, no, ha, q⟩ := h
    refine ⟨_, pss_one (ps_ost (pv 0) (pv 1)), ?_⟩
    exact ⟨_, rfl, _, rfl, a, T.C, rfl, ox, no, .inl ⟨ha, q⟩⟩
theorem ok_i18 (T : ErrC K mg "Blocked" "Blocked.__init__" "contradiction" (sI 18)) : FnOk P w K mg base CX0 1 T.fI T.fd ["self", "contradiction"] (sp_init K T.C "contradiction") := by
  have sc : FnScope ["self", "contradiction"] ["self", "contradiction"] (defScope (sI 18)) := ⟨rfl, rfl, rfl, by decide +kernel, rfl, by decide +kernel, by decide +kernel⟩
  refine T.F.ok sc (fun vs H Q E h => ?_) (fun cdv A outer s H vs Q E hr h => ?_)
  · obtain ⟨a, v, rfl, _⟩ := h
    rfl
  · obtain ⟨a, v, rfl, ox, no, ha, q⟩ := h
    refine ⟨_, pss_one (ps_ost (pv 0) (pv 1)), ?_⟩
    exact ⟨_, rfl, _, rfl, a, T.C, rfl, ox, no, .inl ⟨ha, q⟩⟩
theorem ok_i19 (T : ErrC K mg "BadText" "BadText.__init__" "line" (sI 19)) : FnOk P w K mg base CX0 1 T.fI T.fd ["self", "line"] (sp_init K T.C "line") := by
  have sc : FnScope ["self", "line"] ["self", "line"] (defScope (sI 19)) := ⟨rfl, rfl, rfl, by decide +kernel, rfl, by decide +kernel, by decide +kernel⟩
  refine T.F.ok sc (fun vs H Q E h => ?_) (fun cdv A outer s H vs Q E hr h => ?_)
  · obtain ⟨a, v, rfl, _⟩ := h
    rfl
  · obtain ⟨a, v, rfl, ox, no, ha, q⟩ := h
    refine ⟨_, pss_one (ps_ost (pv 0) (pv 1)), ?_⟩
    exact ⟨_, rfl, _, rfl, a, T.C, rfl, ox, no, .inl ⟨ha, q⟩⟩
end
end My

namespace My
open PySem PySem.Spec PyProof.Rows L2
/-- the classes of the list, in its order -/
structure XTxt (K : PySem.W.Frag) (mg : Str → Option Value) where
  c0 : ErrC K mg "NoItem" "NoItem.__init__" "item" (sI 2)
  c1 : ErrC K mg "NoUnits" "NoUnits.__init__" "units" (sI 3)
  c2 : PlainC K mg "NoPlan"
  c3 : ErrC K mg "NoFit" "NoFit.__init__" "contradiction" (sI 5)
  c4 : ErrC K mg "NoTotal" "NoTotal.__init__" "total" (sI 6)
  c5 : PlainC K mg "NoExchange"
  c6 : ErrC K mg "TooMany" "TooMany.__init__" "limit" (sI 8)
  c7 : PlainC K mg "NoGains"
  c8 : PlainC K mg "NoGroup"
  c9 : ErrC K mg "NoNumber" "NoNumber.__init__" "number" (sI 11)
  c10 : PlainC K mg "NoLimits"
  c11 : ErrC K mg "BadSystem" "BadSystem.__init__" "error" (sI 13)
  c12 : PlainC K mg "NothingToUndo"
  c13 : ErrC K mg "NoMoment" "NoMoment.__init__" "at" (sI 15)
  c14 : PlainC K mg "NoOperations"
  c15 : ErrC K mg "Failed" "Failed.__init__" "index" (sI 17)
  c16 : ErrC K mg "Blocked" "Blocked.__init__" "contradiction" (sI 18)
  c17 : ErrC K mg "BadText" "BadText.__init__" "line" (sI 19)
def XTxt.cs {K : PySem.W.Frag} {mg : Str → Option Value} (X : XTxt K mg) : List Addr := [X.c0.C, X.c1.C, X.c2.C, X.c3.C, X.c4.C, X.c5.C, X.c6.C, X.c7.C, X.c8.C, X.c9.C, X.c10.C, X.c11.C, X.c12.C, X.c13.C, X.c14.C, X.c15.C, X.c16.C, X.c17.C]
structure YTxt (K : PySem.W.Frag) (mg : Str → Option Value) where
  X : XTxt K mg
  cap : Addr
  gCap : mg "CapError" = some (.ref cap)
  mVE : mg "ValueError" = none
  kit : ∀ (i j : Nat) (C D : Addr), X.cs[i]? = some C → X.cs[j]? = some D → PySem.W.kitOne K (.ref C) (.ref D) = some (decide (j = i))
  kCap : ∀ C ∈ X.cs, PySem.W.kitOne K (.ref C) (.ref cap) = some true
  kVE : ∀ C ∈ X.cs, PySem.W.kitOne K (.ref C) (.type "ValueError") = some true
  t0 : Tok
  v0 : mg "MAX_ITEMS" = some (.int 6 t0)
  t1 : Tok
  v1 : mg "MAX_STEPS" = some (.int 5 t1)
  t2 : Tok
  v2 : mg "MAX_GROUPS" = some (.int 8 t2)
  t3 : Tok
  v3 : mg "LIMIT" = some (.int 1000000000000 t3)
  t4 : Tok
  v4 : mg "MAX_GAIN" = some (.int 1000000 t4)
  t5 : Tok
  v5 : mg "LISTED" = some (.int 1000 t5)
  t6 : Tok
  v6 : mg "MAX_OPERATIONS" = some (.int 60 t6)
  t7 : Tok
  v7 : mg "MAX_BATCH" = some (.int 20 t7)
  t8 : Tok
  v8 : mg "LOG_SIZE" = some (.int 100 t8)
theorem ec_of {K : PySem.W.Frag} {mg : Str → Option Value} (X : XTxt K mg) {i : Nat} {C : Addr} (h : X.cs[i]? = some C) : ExcC K C := by
  have hm := List.mem_of_getElem? h
  simp only [XTxt.cs, List.mem_cons, List.not_mem_nil, or_false] at hm
  rcases hm with rfl | rfl | rfl | rfl | rfl | rfl | rfl | rfl | rfl | rfl | rfl | rfl | rfl | rfl | rfl | rfl | rfl | rfl
  · exact X.c0.ec
  · exact X.c1.ec
  · exact X.c2.ec
  · exact X.c3.ec
  · exact X.c4.ec
  · exact X.c5.ec
  · exact X.c6.ec
  · exact X.c7.ec
  · exact X.c8.ec
  · exact X.c9.ec
  · exact X.c10.ec
  · exact X.c11.ec
  · exact X.c12.ec
  · exact X.c13.ec
  · exact X.c14.ec
  · exact X.c15.ec
  · exact X.c16.ec
  · exact X.c17.ec
def sp_q_kinds (K : PySem.W.Frag) (cs : List Addr) : Sp := fun vs H Q _ => ∃ (v : V) (C : Addr) (fs : List (Str × V)) (i : Nat), vs = [v] ∧ ErrAt H v C fs ∧ ExcC K C ∧ (∀ j D, cs[j]? = some D → PySem.W.kitOne K (.ref C) (.ref D) = some (decide (j = i))) ∧
  ∀ H' p, H p = none → Same H H' → H' p = some (.lst ((List.range 18).map fun j => V.bl (decide (j = i)))) → Q (.ref p) H'
section
variable {P : Program} {w : World} {K : PySem.W.Frag} {mg : Str → Option Value} {base : Heap}
theorem ok_q_kinds (T : Txt K mg) (Y : YTxt K mg) : FnOk P w K mg base CX0 1 T.a_q_kinds T.d_q_kinds p_q_kinds (sp_q_kinds K Y.X.cs) := by
  refine T.F_q_kinds.ok sc_q_kinds (fun vs H Q E h => ?_) (fun cdv A outer s H vs Q E hr h => ?_)
  · obtain ⟨v, C, fs, i, rfl, _⟩ := h
    rfl
  · obtain ⟨v, C, fs, i, rfl, he, ec, kit, q⟩ := h
    refine ⟨_, (pss_cons (ps_set (i := 1) sc_q_kinds.nd rfl (.inl rfl) (pe_lstF (pa_cons (pe_callB call_isV (by rfl) T.m_isinstance (by decide +kernel) (pa_cons (pv 0) (pa_cons (pe_glob (v := .ref Y.X.c0.C) (by rfl) Y.X.c0.g rfl) pa_nil))) (pa_cons (pe_callB call_isV (by rfl) T.m_isinstance (by decide +kernel) (pa_cons (pv 0) (pa_cons (pe_glob (v := .ref Y.X.c1.C) (by rfl) Y.X.c1.g rfl) pa_nil))) (pa_cons (pe_callB call_isV (by rfl) T.m_isinstance (by decide +kernel) (pa_cons (pv 0) (pa_cons (pe_glob (v := .ref Y.X.c2.C) (by rfl) Y.X.c2.g rfl) pa_nil))) (pa_cons (pe_callB call_isV (by rfl) T.m_isinstance (by decide +kernel) (pa_cons (pv 0) (pa_cons (pe_glob (v := .ref Y.X.c3.C) (by rfl) Y.X.c3.g rfl) pa_nil))) pa_nil))))))
(pss_cons (ps_set (i := 1) sc_q_kinds.nd rfl (.inl rfl) (pe_op op_catF (pv 1) (pe_lstF (pa_cons (pe_callB call_isV (by rfl) T.m_isinstance (by decide +kernel) (pa_cons (pv 0) (pa_cons (pe_glob (v := .ref Y.X.c4.C) (by rfl) Y.X.c4.g rfl) pa_nil))) (pa_cons (pe_callB call_isV (by rfl) T.m_isinstance (by decide +kernel) (pa_cons (pv 0) (pa_cons (pe_glob (v := .ref Y.X.c5.C) (by rfl) Y.X.c5.g rfl) pa_nil))) (pa_cons (pe_callB call_isV (by rfl) T.m_isinstance (by decide +kernel) (pa_cons (pv 0) (pa_cons (pe_glob (v := .ref Y.X.c6.C) (by rfl) Y.X.c6.g rfl) pa_nil))) pa_nil))))))
(pss_cons (ps_set (i := 1) sc_q_kinds.nd rfl (.inl rfl) (pe_op op_catF (pv 1) (pe_lstF (pa_cons (pe_callB call_isV (by rfl) T.m_isinstance (by decide +kernel) (pa_cons (pv 0) (pa_cons (pe_glob (v := .ref Y.X.c7.C) (by rfl) Y.X.c7.g rfl) pa_nil))) (pa_cons (pe_callB call_isV (by rfl) T.m_isinstance (by decide +kernel) (pa_cons (pv 0) (pa_cons (pe_glob (v := .ref Y.X.c8.C) (by rfl) Y.X.c8.g rfl) pa_nil))) (pa_cons (pe_callB call_isV (by rfl) T.m_isinstance (by decide +kernel) (pa_cons (pv 0) (pa_cons (pe_glob (v := .ref Y.X.c9.C) (by rfl) Y.X.c9.g rfl) pa_nil))) pa_nil))))))
(pss_cons (ps_set (i := 1) sc_q_kinds.nd rfl (.inl rfl) (pe_op op_catF (pv 1) (pe_lstF (pa_cons (pe_callB call_isV (by rfl) T.m_isinstance (by decide +kernel) (pa_cons (pv 0) (pa_cons (pe_glob (v := .ref Y.X.c10.C) (by rfl) Y.X.c10.g rfl) pa_nil))) (pa_cons (pe_callB call_isV (by rfl) T.m_isinstance (by decide +kernel) (pa_cons (pv 0) (pa_cons (pe_glob (v := .ref Y.X.c11.C) (by rfl) Y.X.c11.g rfl) pa_nil))) (pa_cons (pe_callB call_isV (by rfl) T.m_isinstance (by decide +kernel) (pa_cons (pv 0) (pa_cons (pe_glob (v := .ref Y.X.c12.C) (by rfl) Y.X.c12.g rfl) pa_nil))) pa_nil))))))
(pss_cons (ps_set (i := 1) sc_q_kinds.nd rfl (.inl rfl) (pe_op op_catF (pv 1) (pe_lstF (pa_cons (pe_callB call_isV (by rfl) T.m_isinstance (by decide +kernel) (pa_cons (pv 0) (pa_cons (pe_glob (v := .ref Y.X.c13.C) (by rfl) Y.X.c13.g rfl) pa_nil))) (pa_cons (pe_callB call_isV (by rfl) T.m_isinstance (by decide +kernel) (pa_cons (pv 0) (pa_cons (pe_glob (v := .ref Y.X.c14.C) (by rfl) Y.X.c14.g rfl) pa_nil))) (pa_cons (pe_callB call_isV (by rfl) T.m_isinstance (by decide +kernel) (pa_cons (pv 0) (pa_cons (pe_glob (v := .ref Y.X.c15.C) (by rfl) Y.X.c15.g rfl) pa_nil))) pa_nil))))))
(pss_one (ps_ret (pe_op op_catF (pv 1) (pe_lstF (pa_cons (pe_callB call_isV (by rfl) T.m_isinstance (by decide +kernel) (pa_cons (pv 0) (pa_cons (pe_glob (v := .ref Y.X.c16.C) (by rfl) Y.X.c16.g rfl) pa_nil))) (pa_cons (pe_callB call_isV (by rfl) T.m_isinstance (by decide +kernel) (pa_cons (pv 0) (pa_cons (pe_glob (v := .ref Y.X.c17.C) (by rfl) Y.X.c17.g rfl) pa_nil))) pa_nil))))))))))), ?_⟩
    refine ⟨_, rfl, v, .ref Y.X.c0.C, .ref Y.X.c0.C, C, fs, _, rfl, he, ec, fun u h => h, kit 0 _ rfl, ⟨_, rfl, v, .ref Y.X.c1.C, .ref Y.X.c1.C, C, fs, _, rfl, he, ec, fun u h => h, kit 1 _ rfl, ⟨_, rfl, v, .ref Y.X.c2.C, .ref Y.X.c2.C, C, fs, _, rfl, he, ec, fun u h => h, kit 2 _ rfl, ⟨_, rfl, v, .ref Y.X.c3.C, .ref Y.X.c3.C, C, fs, _, rfl, he, ec, fun u h => h, kit 3 _ rfl, by simp, fun p1 H1 n1 s1 e1 => ?_⟩⟩⟩⟩
    refine ⟨_, rfl, ⟨_, rfl, v, .ref Y.X.c4.C, .ref Y.X.c4.C, C, fs, _, rfl, (he.same s1), ec, fun u h => h, kit 4 _ rfl, ⟨_, rfl, v, .ref Y.X.c5.C, .ref Y.X.c5.C, C, fs, _, rfl, (he.same s1), ec, fun u h => h, kit 5 _ rfl, ⟨_, rfl, v, .ref Y.X.c6.C, .ref Y.X.c6.C, C, fs, _, rfl, (he.same s1), ec, fun u h => h, kit 6 _ rfl, by simp, fun p2 H2 n2 s2 e2 => ⟨p1, p2, _, _, rfl, rfl, s2 _ _ e1, e2, by simp, fun p3 H3 n3 s3 e3 => ?_⟩⟩⟩⟩⟩
    have s03 := (s1.trans s2).trans s3
    refine ⟨_, rfl, ⟨_, rfl, v, .ref Y.X.c7.C, .ref Y.X.c7.C, C, fs, _, rfl, (he.same s03), ec, fun u h => h, kit 7 _ rfl, ⟨_, rfl, v, .ref Y.X.c8.C, .ref Y.X.c8.C, C, fs, _, rfl, (he.same s03), ec, fun u h => h, kit 8 _ rfl, ⟨_, rfl, v, .ref Y.X.c9.C, .ref Y.X.c9.C, C, fs, _, rfl, (he.same s03), ec, fun u h => h, kit 9 _ rfl, by simp, fun p4 H4 n4 s4 e4 => ⟨p3, p4, _, _, rfl, rfl, s4 _ _ e3, e4, by simp, fun p5 H5 n5 s5 e5 => ?_⟩⟩⟩⟩⟩
    have s05 := (s03.trans s4).trans s5
    refine ⟨_, rfl, ⟨_, rfl, v, .ref Y.X.c10.C, .ref Y.X.c10.C, C, fs, _, rfl, (he.same s05), ec, fun u h => h, kit 10 _ rfl, ⟨_, rfl, v, .ref Y.X.c11.C, .ref Y.X.c11.C, C, fs, _, rfl, (he.same s05), ec, fun u h => h, kit 11 _ rfl, ⟨_, rfl, v, .ref Y.X.c12.C, .ref Y.X.c12.C, C, fs, _, rfl, (he.same s05), ec, fun u h => h, kit 12 _ rfl, by simp, fun p6 H6 n6 s6 e6 => ⟨p5, p6, _, _, rfl, rfl, s6 _ _ e5, e6, by simp, fun p7 H7 n7 s7 e7 => ?_⟩⟩⟩⟩⟩
    have s07 := (s05.trans s6).trans s7
    refine ⟨_, rfl, ⟨_, rfl, v, .ref Y.X.c13.C, .ref Y.X.c13.C, C, fs, _, rfl, (he.same s07), ec, fun u h => h, kit 13 _ rfl, ⟨_, rfl, v, .ref Y.X.c14.C, .ref Y.X.c14.C, C, fs, _, rfl, (he.same s07), ec, fun u h => h, kit 14 _ rfl, ⟨_, rfl, v, .ref Y.X.c15.C, .ref Y.X.c15.C, C, fs, _, rfl, (he.same s07), ec, fun u h => h, kit 15 _ rfl, by simp, fun p8 H8 n8 s8 e8 => ⟨p7, p8, _, _, rfl, rfl, s8 _ _ e7, e8, by simp, fun p9 H9 n9 s9 e9 => ?_⟩⟩⟩⟩⟩
    have s09 := (s07.trans s8).trans s9
    refine ⟨_, rfl, ⟨_, rfl, v, .ref Y.X.c16.C, .ref Y.X.c16.C, C, fs, _, rfl, (he.same s09), ec, fun u h => h, kit 16 _ rfl, ⟨_, rfl, v, .ref Y.X.c17.C, .ref Y.X.c17.C, C, fs, _, rfl, (he.same s09), ec, fun u h => h, kit 17 _ rfl, by simp, fun p10 H10 n10 s10 e10 => ⟨p9, p10, _, _, rfl, rfl, s10 _ _ e9, e10, by simp, fun p11 H11 n11 s11 e11 => ?_⟩⟩⟩⟩
    have s011 := (s09.trans s10).trans s11
    refine q _ _ ?_ s011 e11
    exact Same.free ((s09).trans s10) n11
end
end My

set_option maxHeartbeats 4000000
namespace My
open PySem PySem.Spec PyProof.Rows L2
inductive EAll (H : Hp) : List V → List Addr → Prop
  | nil : EAll H [] []
  | cons {v : V} {C : Addr} {fs : List (Str × V)} {vs : List V} {cs : List Addr} : ErrAt H v C fs → EAll H vs cs → EAll H (v :: vs) (C :: cs)
theorem EAll.get {H : Hp} : ∀ {vs : List V} {cs : List Addr} {i : Nat} {v : V}, EAll H vs cs → vs[i]? = some v → ∃ C fs, ErrAt H v C fs ∧ cs[i]? = some C
  | _, _, 0, _, .cons h _, e => by
    cases e
    exact ⟨_, _, h, rfl⟩
  | _, _, i + 1, _, .cons _ t, e => t.get (i := i) (by simpa using e)
theorem ErrAt.two {H H' H'' : Hp} {v : V} {C : Addr} {fs : List (Str × V)} (h : ErrAt H v C fs) (s : Same H H') (t : Same H' H'') : ErrAt H'' v C fs := (h.same s).same t
def bools (i : Nat) : List Bool := (List.range 18).map fun j => decide (j = i)
theorem dp_bools {K : PySem.W.Frag} {H : Hp} : ∀ bs : List Bool, DpAll K H (bs.map V.bl) (bs.map PyData.bool)
  | [] => .nil
  | b :: r => .cons (.bl b) (dp_bools r)
theorem bools_eqv : ∀ i, i < 18 → PyData.eqv (.list ((bools i).map PyData.bool)) (.list ((bools i).map PyData.bool)) = true ∧ SeqAt.shaped (.list ((bools i).map PyData.bool)) = true := by decide +kernel
def limV : List V := [.int 6, .int 5, .int 8, .int 1000000000000, .int 1000000, .int 1000, .int 60, .int 20, .int 100]
def limD : List PyData := [.int 6, .int 5, .int 8, .int 1000000000000, .int 1000000, .int 1000, .int 60, .int 20, .int 100]
theorem hd_lim {D : Dk} {H : Hp} : HdAll D H limV limD := .cons (.int _) (.cons (.int _) (.cons (.int _) (.cons (.int _) (.cons (.int _) (.cons (.int _) (.cons (.int _) (.cons (.int _) (.cons (.int _) .nil))))))))
theorem tame_lim : (PyData.list limD).showable = true ∧ (PyData.list limD).depth ≤ 60 ∧ (PyData.list limD).shown.length ≤ sizeLine := by
  refine (tame_lst (k := 0) (n := 0) (l := 9) (fun d hd => ?_) (by simp [limD])).fits (by decide) (by decide)
  simp only [limD, List.mem_cons, List.not_mem_nil, or_false] at hd
  rcases hd with rfl | rfl | rfl | rfl | rfl | rfl | rfl | rfl | rfl <;> exact tame_int (by decide)
def sp_law (K : PySem.W.Frag) : Sp := fun vs H Q _ => ∃ (a : Addr) (ns : List Int), vs = [.ref a] ∧ SqL K H a (ns.map V.int) ∧ ns.length ≤ 63 ∧ ∀ H', Q (.bl true) H'
section
variable {P : Program} {w : World} {K : PySem.W.Frag} {mg : Str → Option Value} {base : Heap}
theorem ok_law (T : Txt K mg) (Y : YTxt K mg) : FnG P w K mg base CX0 5 T.a_law T.d_law p_law (sp_law K) := by
  have G_q_deck : FnOk P w K mg base CX0 1 T.a_q_deck T.d_q_deck p_q_deck (sp_q_deck K) := ok_q_deck T
  have G_q_odd : FnOk P w K mg base CX0 2 T.a_q_odd T.d_q_odd p_q_odd sp_q_odd := ok_q_odd T
  have G_q_kinds : FnOk P w K mg base CX0 1 T.a_q_kinds T.d_q_kinds p_q_kinds (sp_q_kinds K Y.X.cs) := ok_q_kinds T Y
  have G_i2 : FnOk P w K mg base CX0 1 Y.X.c0.fI Y.X.c0.fd ["self", "item"] (sp_init K Y.X.c0.C "item") := ok_i2 Y.X.c0
  have G_i3 : FnOk P w K mg base CX0 1 Y.X.c1.fI Y.X.c1.fd ["self", "units"] (sp_init K Y.X.c1.C "units") := ok_i3 Y.X.c1
  have G_i5 : FnOk P w K mg base CX0 1 Y.X.c3.fI Y.X.c3.fd ["self", "contradiction"] (sp_init K Y.X.c3.C "contradiction") := ok_i5 Y.X.c3
  have G_i6 : FnOk P w K mg base CX0 1 Y.X.c4.fI Y.X.c4.fd ["self", "total"] (sp_init K Y.X.c4.C "total") := ok_i6 Y.X.c4
  have G_i8 : FnOk P w K mg base CX0 1 Y.X.c6.fI Y.X.c6.fd ["self", "limit"] (sp_init K Y.X.c6.C "limit") := ok_i8 Y.X.c6
  have G_i11 : FnOk P w K mg base CX0 1 Y.X.c9.fI Y.X.c9.fd ["self", "number"] (sp_init K Y.X.c9.C "number") := ok_i11 Y.X.c9
  have G_i13 : FnOk P w K mg base CX0 1 Y.X.c11.fI Y.X.c11.fd ["self", "error"] (sp_init K Y.X.c11.C "error") := ok_i13 Y.X.c11
  have G_i15 : FnOk P w K mg base CX0 1 Y.X.c13.fI Y.X.c13.fd ["self", "at"] (sp_init K Y.X.c13.C "at") := ok_i15 Y.X.c13
  have G_i17 : FnOk P w K mg base CX0 1 Y.X.c15.fI Y.X.c15.fd ["self", "index"] (sp_init K Y.X.c15.C "index") := ok_i17 Y.X.c15
  have G_i18 : FnOk P w K mg base CX0 1 Y.X.c16.fI Y.X.c16.fd ["self", "contradiction"] (sp_init K Y.X.c16.C "contradiction") := ok_i18 Y.X.c16
  have G_i19 : FnOk P w K mg base CX0 1 Y.X.c17.fI Y.X.c17.fd ["self", "line"] (sp_init K Y.X.c17.C "line") := ok_i19 Y.X.c17
  refine fun_okG T.F_law sc_law (fun vs H Q E h => ?_) (fun cdv A outer s H vs Q E hG hr h => ?_)
  · obtain ⟨a, ns, rfl, _⟩ := h
    rfl
  · obtain ⟨a, ns, rfl, hS, hl, q⟩ := h
    have both : ∃ t, PSs (cxOf CX0 P w K mg base n_law "law" (defScope s_law) T.a_law cdv A outer s H E).nox (defBody s_law) t ∧ t { nx := fun _ H' => Q .non H', rt := Q } (start n_law [.ref a]) H := by
     refine ⟨_, (Evl.pss_cut (ps_set (i := 1) sc_law.nd rfl (.inl rfl) (pe_call G_q_deck (hr.mono (by decide)) (by rfl) T.g_q_deck T.F_q_deck.kp T.b_q_deck .nil pass0 (pa_cons (pv 0) pa_nil)))
(Evl.pss_cut (ps_par3 (i := 2) (j := 3) (l := 4) rfl sc_law.nd rfl rfl rfl (by decide) (by decide) (by decide) rfl rfl rfl (pa_cons (pe_call G_q_odd (hr.mono (by decide)) (by rfl) T.g_q_odd T.F_q_odd.kp T.b_q_odd .nil pass0 (pa_cons (pv 1) pa_nil)) (pa_cons (pe_call G_q_odd (hr.mono (by decide)) (by rfl) T.g_q_odd T.F_q_odd.kp T.b_q_odd .nil pass0 (pa_cons (pv 1) pa_nil)) (pa_cons (pe_call G_q_odd (hr.mono (by decide)) (by rfl) T.g_q_odd T.F_q_odd.kp T.b_q_odd .nil pass0 (pa_cons (pv 1) pa_nil)) pa_nil))) (by rfl))
(Evl.pss_cut (ps_par3 (i := 5) (j := 6) (l := 7) rfl sc_law.nd rfl rfl rfl (by decide) (by decide) (by decide) rfl rfl rfl (pa_cons (pe_newF (X := (cxOf CX0 P w K mg base n_law "law" (defScope s_law) T.a_law cdv A outer s H E).nox) (f := "item") (ql := "NoItem.__init__") (st := sI 2) Y.X.c0 G_i2 (hr.mono (by decide)) (by rfl) (pa_cons (pv 2) pa_nil)) (pa_cons (pe_newF (X := (cxOf CX0 P w K mg base n_law "law" (defScope s_law) T.a_law cdv A outer s H E).nox) (f := "units") (ql := "NoUnits.__init__") (st := sI 3) Y.X.c1 G_i3 (hr.mono (by decide)) (by rfl) (pa_cons (pv 3) pa_nil)) (pa_cons (pe_newF (X := (cxOf CX0 P w K mg base n_law "law" (defScope s_law) T.a_law cdv A outer s H E).nox) (f := "contradiction") (ql := "NoFit.__init__") (st := sI 5) Y.X.c3 G_i5 (hr.mono (by decide)) (by rfl) (pa_cons (pv 4) pa_nil)) pa_nil))) (by rfl))
(Evl.pss_cut (ps_par3 (i := 8) (j := 9) (l := 10) rfl sc_law.nd rfl rfl rfl (by decide) (by decide) (by decide) rfl rfl rfl (pa_cons (pe_newF (X := (cxOf CX0 P w K mg base n_law "law" (defScope s_law) T.a_law cdv A outer s H E).nox) (f := "total") (ql := "NoTotal.__init__") (st := sI 6) Y.X.c4 G_i6 (hr.mono (by decide)) (by rfl) (pa_cons (pv 2) pa_nil)) (pa_cons (pe_newF (X := (cxOf CX0 P w K mg base n_law "law" (defScope s_law) T.a_law cdv A outer s H E).nox) (f := "limit") (ql := "TooMany.__init__") (st := sI 8) Y.X.c6 G_i8 (hr.mono (by decide)) (by rfl) (pa_cons (pv 3) pa_nil)) (pa_cons (pe_newF (X := (cxOf CX0 P w K mg base n_law "law" (defScope s_law) T.a_law cdv A outer s H E).nox) (f := "number") (ql := "NoNumber.__init__") (st := sI 11) Y.X.c9 G_i11 (hr.mono (by decide)) (by rfl) (pa_cons (pv 4) pa_nil)) pa_nil))) (by rfl))
(Evl.pss_cut (ps_par (i := 11) (j := 12) rfl sc_law.nd rfl rfl (by decide) rfl rfl (pa_cons (pe_newF (X := (cxOf CX0 P w K mg base n_law "law" (defScope s_law) T.a_law cdv A outer s H E).nox) (f := "error") (ql := "BadSystem.__init__") (st := sI 13) Y.X.c11 G_i13 (hr.mono (by decide)) (by rfl) (pa_cons (pv 2) pa_nil)) (pa_cons (pe_newF (X := (cxOf CX0 P w K mg base n_law "law" (defScope s_law) T.a_law cdv A outer s H E).nox) (f := "at") (ql := "NoMoment.__init__") (st := sI 15) Y.X.c13 G_i15 (hr.mono (by decide)) (by rfl) (pa_cons (pv 3) pa_nil)) pa_nil)) (by rfl))
(Evl.pss_cut (ps_par3 (i := 13) (j := 14) (l := 15) rfl sc_law.nd rfl rfl rfl (by decide) (by decide) (by decide) rfl rfl rfl (pa_cons (pe_newF (X := (cxOf CX0 P w K mg base n_law "law" (defScope s_law) T.a_law cdv A outer s H E).nox) (f := "index") (ql := "Failed.__init__") (st := sI 17) Y.X.c15 G_i17 (hr.mono (by decide)) (by rfl) (pa_cons (pv 4) pa_nil)) (pa_cons (pe_newF (X := (cxOf CX0 P w K mg base n_law "law" (defScope s_law) T.a_law cdv A outer s H E).nox) (f := "contradiction") (ql := "Blocked.__init__") (st := sI 18) Y.X.c16 G_i18 (hr.mono (by decide)) (by rfl) (pa_cons (pv 2) pa_nil)) (pa_cons (pe_newF (X := (cxOf CX0 P w K mg base n_law "law" (defScope s_law) T.a_law cdv A outer s H E).nox) (f := "line") (ql := "BadText.__init__") (st := sI 19) Y.X.c17 G_i19 (hr.mono (by decide)) (by rfl) (pa_cons (pv 3) pa_nil)) pa_nil))) (by rfl))
(Evl.pss_cut (ps_set (i := 16) sc_law.nd rfl (.inl rfl) (pe_lstF (pa_cons (pv 5) (pa_cons (pv 6) (pa_cons (pe_new0 (X := (cxOf CX0 P w K mg base n_law "law" (defScope s_law) T.a_law cdv A outer s H E).nox) Y.X.c2 (by rfl)) (pa_cons (pv 7) (pa_cons (pv 8) (pa_cons (pe_new0 (X := (cxOf CX0 P w K mg base n_law "law" (defScope s_law) T.a_law cdv A outer s H E).nox) Y.X.c5 (by rfl)) (pa_cons (pv 9) (pa_cons (pe_new0 (X := (cxOf CX0 P w K mg base n_law "law" (defScope s_law) T.a_law cdv A outer s H E).nox) Y.X.c7 (by rfl)) (pa_cons (pe_new0 (X := (cxOf CX0 P w K mg base n_law "law" (defScope s_law) T.a_law cdv A outer s H E).nox) Y.X.c8 (by rfl)) (pa_cons (pv 10) (pa_cons (pe_new0 (X := (cxOf CX0 P w K mg base n_law "law" (defScope s_law) T.a_law cdv A outer s H E).nox) Y.X.c10 (by rfl)) (pa_cons (pv 11) pa_nil))))))))))))))
(Evl.pss_cut (ps_set (i := 16) sc_law.nd rfl (.inl rfl) (pe_op op_catF (pv 16) (pe_lstF (pa_cons (pe_new0 (X := (cxOf CX0 P w K mg base n_law "law" (defScope s_law) T.a_law cdv A outer s H E).nox) Y.X.c12 (by rfl)) (pa_cons (pv 12) (pa_cons (pe_new0 (X := (cxOf CX0 P w K mg base n_law "law" (defScope s_law) T.a_law cdv A outer s H E).nox) Y.X.c14 (by rfl)) (pa_cons (pv 13) (pa_cons (pv 14) (pa_cons (pv 15) pa_nil)))))))))
(Evl.pss_cut (ps_for PassesOwn.never rfl (pi_enum (by rfl) T.m_enumerate (pa_cons (pv 16) pa_nil)) (pg_tup (by rfl) (pgs_cons (pg_name (i := 17) sc_law.nd rfl (.inr rfl)) (pgs_cons (pg_name (i := 18) sc_law.nd rfl (.inl rfl)) pgs_nil)))
(pss_cons (ps_if (pt_cmpR (op_neD hr.units) (pe_call G_q_kinds (hr.mono (by decide)) (by rfl) T.g_q_kinds T.F_q_kinds.kp T.b_q_kinds .nil pass0 (pa_cons (pv 18) pa_nil)) (pe_lc (own := [("_law_j", 21)]) (g := (gName 21)) (tt := tYes) rfl sc_law.nd (pi_range1 (by rfl) T.m_range (pa_cons pe_int pa_nil)) (blkOk_by (own := [("_law_j", 21)]) (N := n_law) (sc := defScope s_law) (by decide +kernel)) (fun _ _ _ _ _ => (pg_name (i := 21) sc_law.nd rfl (.inl rfl))) (fun _ _ _ _ _ => pts_nil) (fun _ _ _ _ _ => (pe_cmpR op_eq (pv 21) (pv 17) (nomark _)))) (nomark _))
(pss_one (ps_ret pe_bl))
pss_nil)
(pss_one (ps_if (PW.pt (pw_or (pt_not (pt_val (pe_callB call_isV (by rfl) T.m_isinstance (by decide +kernel) (pa_cons (pv 18) (pa_cons (pe_glob (v := .ref Y.cap) (by rfl) Y.gCap rfl) pa_nil))))) (pw_or1 (pt_not (pt_val (pe_callB call_isV (by rfl) T.m_isinstance (by decide +kernel) (pa_cons (pv 18) (pa_cons (pe_bltn (v := .ty "ValueError") (by rfl) Y.mVE (by decide +kernel) rfl) pa_nil))))))))
(pss_one (ps_ret pe_bl))
pss_nil))))
(Evl.pss_cut (ps_set (i := 19) sc_law.nd rfl (.inl rfl) (pe_lstF (pa_cons (pe_fld (X := (cxOf CX0 P w K mg base n_law "law" (defScope s_law) T.a_law cdv A outer s H E).nox) (f := "item") (ql := "NoItem.__init__") (st := sI 2) Y.X.c0 (pv 5)) (pa_cons (pe_fld (X := (cxOf CX0 P w K mg base n_law "law" (defScope s_law) T.a_law cdv A outer s H E).nox) (f := "units") (ql := "NoUnits.__init__") (st := sI 3) Y.X.c1 (pv 6)) (pa_cons (pe_fld (X := (cxOf CX0 P w K mg base n_law "law" (defScope s_law) T.a_law cdv A outer s H E).nox) (f := "contradiction") (ql := "NoFit.__init__") (st := sI 5) Y.X.c3 (pv 7)) (pa_cons (pe_fld (X := (cxOf CX0 P w K mg base n_law "law" (defScope s_law) T.a_law cdv A outer s H E).nox) (f := "total") (ql := "NoTotal.__init__") (st := sI 6) Y.X.c4 (pv 8)) (pa_cons (pe_fld (X := (cxOf CX0 P w K mg base n_law "law" (defScope s_law) T.a_law cdv A outer s H E).nox) (f := "limit") (ql := "TooMany.__init__") (st := sI 8) Y.X.c6 (pv 9)) (pa_cons (pe_fld (X := (cxOf CX0 P w K mg base n_law "law" (defScope s_law) T.a_law cdv A outer s H E).nox) (f := "number") (ql := "NoNumber.__init__") (st := sI 11) Y.X.c9 (pv 10)) (pa_cons (pe_fld (X := (cxOf CX0 P w K mg base n_law "law" (defScope s_law) T.a_law cdv A outer s H E).nox) (f := "error") (ql := "BadSystem.__init__") (st := sI 13) Y.X.c11 (pv 11)) (pa_cons (pe_fld (X := (cxOf CX0 P w K mg base n_law "law" (defScope s_law) T.a_law cdv A outer s H E).nox) (f := "at") (ql := "NoMoment.__init__") (st := sI 15) Y.X.c13 (pv 12)) pa_nil))))))))))
(Evl.pss_cut (ps_set (i := 19) sc_law.nd rfl (.inl rfl) (pe_op op_catF (pv 19) (pe_lstF (pa_cons (pe_fld (X := (cxOf CX0 P w K mg base n_law "law" (defScope s_law) T.a_law cdv A outer s H E).nox) (f := "index") (ql := "Failed.__init__") (st := sI 17) Y.X.c15 (pv 13)) (pa_cons (pe_fld (X := (cxOf CX0 P w K mg base n_law "law" (defScope s_law) T.a_law cdv A outer s H E).nox) (f := "contradiction") (ql := "Blocked.__init__") (st := sI 18) Y.X.c16 (pv 14)) (pa_cons (pe_fld (X := (cxOf CX0 P w K mg base n_law "law" (defScope s_law) T.a_law cdv A outer s H E).nox) (f := "line") (ql := "BadText.__init__") (st := sI 19) Y.X.c17 (pv 15)) pa_nil))))))
(Evl.pss_cut (ps_if (pt_cmpR op_ne (pe_callB (call_repr hG hr.units) (by rfl) T.m_repr (by decide +kernel) (pa_cons (pv 19) pa_nil)) (pe_callB (call_repr hG hr.units) (by rfl) T.m_repr (by decide +kernel) (pa_cons (pe_lstF (pa_cons (pv 2) (pa_cons (pv 3) (pa_cons (pv 4) (pa_cons (pv 2) (pa_cons (pv 3) (pa_cons (pv 4) (pa_cons (pv 2) (pa_cons (pv 3) (pa_cons (pv 4) (pa_cons (pv 2) (pa_cons (pv 3) pa_nil)))))))))))) pa_nil)) (nomark _))
(pss_one (ps_ret pe_bl))
pss_nil)
(Evl.pss_cut (ps_set (i := 20) sc_law.nd rfl (.inl rfl) (pe_lstF (pa_cons (pe_glob (v := .int 6) (by rfl) Y.v0 ⟨_, rfl⟩) (pa_cons (pe_glob (v := .int 5) (by rfl) Y.v1 ⟨_, rfl⟩) (pa_cons (pe_glob (v := .int 8) (by rfl) Y.v2 ⟨_, rfl⟩) (pa_cons (pe_glob (v := .int 1000000000000) (by rfl) Y.v3 ⟨_, rfl⟩) (pa_cons (pe_glob (v := .int 1000000) (by rfl) Y.v4 ⟨_, rfl⟩) (pa_cons (pe_glob (v := .int 1000) (by rfl) Y.v5 ⟨_, rfl⟩) (pa_cons (pe_glob (v := .int 60) (by rfl) Y.v6 ⟨_, rfl⟩) (pa_cons (pe_glob (v := .int 20) (by rfl) Y.v7 ⟨_, rfl⟩) (pa_cons (pe_glob (v := .int 100) (by rfl) Y.v8 ⟨_, rfl⟩) pa_nil)))))))))))
(pss_one (ps_ret (pe_cmpR op_eq (pe_callB (call_repr hG hr.units) (by rfl) T.m_repr (by decide +kernel) (pa_cons (pv 20) pa_nil)) (pe_callB (call_repr hG hr.units) (by rfl) T.m_repr (by decide +kernel) (pa_cons (pe_lstF (pa_cons pe_int (pa_cons pe_int (pa_cons pe_int (pa_cons (pe_op op_pow pe_int pe_int) (pa_cons (pe_op op_pow pe_int pe_int) (pa_cons pe_int (pa_cons pe_int (pa_cons pe_int (pa_cons pe_int pa_nil)))))))))) pa_nil)) (nomark _))))))))))))))))), ?_⟩
     refine ⟨fun σ' H' => ∃ D : Dk, σ' = [some (.ref a), some (.ref D.a), none, none, none, none, none, none, none, none, none, none, none, none, none, none, none, none, none, none, none, none] ∧ D.On H' 0, ⟨_, rfl, a, ns, rfl, hS, hl, fun H1 D s1 n1 n2 n3 d1 => ⟨D, rfl, d1⟩⟩, ?_⟩
     rintro σ H1 ⟨D, rfl, d1⟩
     refine ⟨fun σ' H' => ∃ v1 v2 v3 o1 o2 o3, σ' = [some (.ref a), some (.ref D.a), some v1, some v2, some v3, none, none, none, none, none, none, none, none, none, none, none, none, none, none, none, none, none] ∧ D.On H' 3 ∧ Hd D H' v1 o1 ∧ Hd D H' v2 o2 ∧ Hd D H' v3 o3 ∧ o1 ∈ oddD ∧ o2 ∈ oddD ∧ o3 ∈ oddD, ?_, ?_⟩
     · refine ⟨_, rfl, D, 0, rfl, d1, by decide, fun H2 v1 o1 k2 d2 h1 m1 => ⟨_, rfl, D, 1, rfl, d2, by decide, fun H3 v2 o2 k3 d3 h2 m2 => ⟨_, rfl, D, 2, rfl, d3, by decide, fun H4 v3 o3 k4 d4 h3 m3 => ⟨_, _, _, rfl, ?_⟩⟩⟩⟩
       exact ⟨v1, v2, v3, o1, o2, o3, rfl, d4, (h1.keep d2 k3).keep d3 k4, h2.keep d3 k4, h3, m1, m2, m3⟩
     rintro σ H4 ⟨v1, v2, v3, o1, o2, o3, rfl, d4, g1, g2, h3, m1, m2, m3⟩
     refine ⟨fun σ' H' => ∃ w0 w1 w3, σ' = [some (.ref a), some (.ref D.a), some v1, some v2, some v3, some w0, some w1, some w3, none, none, none, none, none, none, none, none, none, none, none, none, none, none] ∧ Same H4 H' ∧ Fld H' w0 Y.X.c0.C "item" v1 ∧ Fld H' w1 Y.X.c1.C "units" v2 ∧ Fld H' w3 Y.X.c3.C "contradiction" v3, ?_, ?_⟩
     · exact ⟨_, rfl, _, rfl, fun w0 K0 s0 f0 => ⟨_, rfl, _, rfl, fun w1 K1 s1 f1 => ⟨_, rfl, _, rfl, fun w3 K2 s2 f3 => ⟨_, _, _, rfl, ⟨w0, w1, w3, rfl, (s0.trans s1).trans s2, (f0.same s1).same s2, f1.same s2, f3⟩⟩⟩⟩⟩
     rintro σ H7 ⟨w0, w1, w3, rfl, smH7, f0, f1, f3⟩
     refine ⟨fun σ' H' => ∃ w4 w6 w9, σ' = [some (.ref a), some (.ref D.a), some v1, some v2, some v3, some w0, some w1, some w3, some w4, some w6, some w9, none, none, none, none, none, none, none, none, none, none, none] ∧ Same H7 H' ∧ Fld H' w4 Y.X.c4.C "total" v1 ∧ Fld H' w6 Y.X.c6.C "limit" v2 ∧ Fld H' w9 Y.X.c9.C "number" v3, ?_, ?_⟩
     · exact ⟨_, rfl, _, rfl, fun w4 K0 s0 f4 => ⟨_, rfl, _, rfl, fun w6 K1 s1 f6 => ⟨_, rfl, _, rfl, fun w9 K2 s2 f9 => ⟨_, _, _, rfl, ⟨w4, w6, w9, rfl, (s0.trans s1).trans s2, (f4.same s1).same s2, f6.same s2, f9⟩⟩⟩⟩⟩
     rintro σ H10 ⟨w4, w6, w9, rfl, smH10, f4, f6, f9⟩
     refine ⟨fun σ' H' => ∃ w11 w13, σ' = [some (.ref a), some (.ref D.a), some v1, some v2, some v3, some w0, some w1, some w3, some w4, some w6, some w9, some w11, some w13, none, none, none, none, none, none, none, none, none] ∧ Same H10 H' ∧ Fld H' w11 Y.X.c11.C "error" v1 ∧ Fld H' w13 Y.X.c13.C "at" v2, ?_, ?_⟩
     · exact ⟨_, rfl, _, rfl, fun w11 K0 s0 f11 => ⟨_, rfl, _, rfl, fun w13 K1 s1 f13 => ⟨_, _, rfl, ⟨w11, w13, rfl, s0.trans s1, f11.same s1, f13⟩⟩⟩⟩
     rintro σ H12 ⟨w11, w13, rfl, smH12, f11, f13⟩
     refine ⟨fun σ' H' => ∃ w15 w16 w17, σ' = [some (.ref a), some (.ref D.a), some v1, some v2, some v3, some w0, some w1, some w3, some w4, some w6, some w9, some w11, some w13, some w15, some w16, some w17, none, none, none, none, none, none] ∧ Same H12 H' ∧ Fld H' w15 Y.X.c15.C "index" v3 ∧ Fld H' w16 Y.X.c16.C "contradiction" v1 ∧ Fld H' w17 Y.X.c17.C "line" v2, ?_, ?_⟩
     · exact ⟨_, rfl, _, rfl, fun w15 K0 s0 f15 => ⟨_, rfl, _, rfl, fun w16 K1 s1 f16 => ⟨_, rfl, _, rfl, fun w17 K2 s2 f17 => ⟨_, _, _, rfl, ⟨w15, w16, w17, rfl, (s0.trans s1).trans s2, (f15.same s1).same s2, f16.same s2, f17⟩⟩⟩⟩⟩
     rintro σ H15 ⟨w15, w16, w17, rfl, smH15, f15, f16, f17⟩
     refine ⟨fun σ' H' => ∃ w2 w5 w7 w8 w10 e1, σ' = [some (.ref a), some (.ref D.a), some v1, some v2, some v3, some w0, some w1, some w3, some w4, some w6, some w9, some w11, some w13, some w15, some w16, some w17, some (.ref e1), none, none, none, none, none] ∧ Same H15 H' ∧ H' e1 = some (.lst [w0, w1, w2, w3, w4, w5, w6, w7, w8, w9, w10, w11]) ∧ ErrAt H' w2 Y.X.c2.C [] ∧ ErrAt H' w5 Y.X.c5.C [] ∧ ErrAt H' w7 Y.X.c7.C [] ∧ ErrAt H' w8 Y.X.c8.C [] ∧ ErrAt H' w10 Y.X.c10.C [], ?_, ?_⟩
     · refine ⟨_, rfl, _, rfl, fun w2 H16 s16 f2 => ⟨_, rfl, _, rfl, fun w5 H17 s17 f5 => ⟨_, rfl, fun w7 H18 s18 f7 => fun w8 H19 s19 f8 => ⟨_, rfl, fun w10 H20 s20 f10 => ⟨_, rfl, by simp, fun e1 H21 n21 s21 x21 => ?_⟩⟩⟩⟩⟩
       have t20 := s21
       have t19 := s20.trans t20
       have t18 := s19.trans t19
       have t17 := s18.trans t18
       have t16 := s17.trans t17
       exact ⟨w2, w5, w7, w8, w10, e1, rfl, s16.trans t16, x21, f2.same t16, f5.same t17, f7.same t18, f8.same t19, f10.same t20⟩
     rintro σ H21 ⟨w2, w5, w7, w8, w10, e1, rfl, smH21, x21, f2, f5, f7, f8, f10⟩
     refine ⟨fun σ' H' => ∃ w12 w14 e3, σ' = [some (.ref a), some (.ref D.a), some v1, some v2, some v3, some w0, some w1, some w3, some w4, some w6, some w9, some w11, some w13, some w15, some w16, some w17, some (.ref e3), none, none, none, none, none] ∧ Same H21 H' ∧ H' e3 = some (.lst [w0, w1, w2, w3, w4, w5, w6, w7, w8, w9, w10, w11, w12, w13, w14, w15, w16, w17]) ∧ ErrAt H' w12 Y.X.c12.C [] ∧ ErrAt H' w14 Y.X.c14.C [], ?_, ?_⟩
     · refine ⟨_, rfl, fun w12 H22 s22 f12 => ⟨_, rfl, fun w14 H23 s23 f14 => ⟨_, rfl, _, rfl, _, rfl, by simp, fun e2 H24 n24 s24 x24 => ⟨e1, e2, _, _, rfl, rfl, s24 _ _ (s23 _ _ (s22 _ _ x21)), x24, by simp, fun e3 H25 n25 s25 x25 => ?_⟩⟩⟩⟩
       have t24 := s24.trans s25
       have t23 := s23.trans t24
       exact ⟨w12, w14, e3, rfl, s22.trans t23, x25, f12.same t23, f14.same t24⟩
     rintro σ H25 ⟨w12, w14, e3, rfl, smH25, x25, f12, f14⟩
     have t21 := smH25
     have t15 := smH21.trans t21
     have t12 := smH15.trans t15
     have t10 := smH12.trans t12
     have t7 := smH10.trans t10
     have t4 := smH7.trans t7
     replace f0 := f0.same t7
     replace f1 := f1.same t7
     replace f2 := f2.same t21
     replace f3 := f3.same t7
     replace f4 := f4.same t10
     replace f5 := f5.same t21
     replace f6 := f6.same t10
     replace f7 := f7.same t21
     replace f8 := f8.same t21
     replace f9 := f9.same t10
     replace f10 := f10.same t21
     replace f11 := f11.same t12
     replace f13 := f13.same t12
     replace f15 := f15.same t15
     replace f16 := f16.same t15
     replace f17 := f17.same t15
     have all : EAll H25 [w0, w1, w2, w3, w4, w5, w6, w7, w8, w9, w10, w11, w12, w13, w14, w15, w16, w17] Y.X.cs :=
       .cons f0.err (.cons f1.err (.cons f2 (.cons f3.err (.cons f4.err (.cons f5 (.cons f6.err (.cons f7 (.cons f8 (.cons f9.err (.cons f10 (.cons f11.err (.cons f12 (.cons f13.err (.cons f14 (.cons f15.err (.cons f16.err (.cons f17.err (.nil))))))))))))))))))
     obtain ⟨ws, hws⟩ : ∃ ws, [w0, w1, w2, w3, w4, w5, w6, w7, w8, w9, w10, w11, w12, w13, w14, w15, w16, w17] = ws := ⟨_, rfl⟩
     have hwl : ws.length = 18 := by rw [← hws]; rfl
     rw [hws] at x25 all
     have q1 := g1.keep d4 (Same.keep t4)
     have q2 := g2.keep d4 (Same.keep t4)
     have q3 := h3.keep d4 (Same.keep t4)
     have d25 := d4.same t4
     clear t4 t7 t10 t12 t15 t21 smH7 smH10 smH12 smH15 smH21 smH25 x21 g1 g2 h3 d4 hws f2 f5 f7 f8 f10 f12 f14
     refine ⟨fun σ' H' => ∃ y17 y18, σ' = [some (.ref a), some (.ref D.a), some v1, some v2, some v3, some w0, some w1, some w3, some w4, some w6, some w9, some w11, some w13, some w15, some w16, some w17, some (.ref e3), y17, y18, none, none, none] ∧ Same H25 H', ?_, ?_⟩
     · refine ⟨_, rfl, e3, ws, rfl, .inl (.inl x25), for_it (walk_enum (K := K) (a := e3) (xs := ws)) (fun i σ H' => ∃ y17 y18, σ = [some (.ref a), some (.ref D.a), some v1, some v2, some v3, some w0, some w1, some w3, some w4, some w6, some w9, some w11, some w13, some w15, some w16, some w17, some (.ref e3), y17, y18, none, none, none] ∧ Same H25 H') ⟨_, _, rfl, fun _ _ z => z⟩ (fun i σ H' _ hp => ?_) (fun i x σ H' H'' hi hp hy => ?_) (fun σ H' hp => hp)⟩
       · obtain ⟨_, _, _, sm⟩ := hp
         exact .inl (.inl (sm _ _ x25))
       · obtain ⟨y17, y18, rfl, sm⟩ := hp
         obtain ⟨T', x', y, rfl, nT, rfl, hx, hy⟩ := hy
         cases hx
         obtain ⟨C, fs, he, hC⟩ := all.get hy
         have i18 : i < 18 := by omega
         have s1 : Same H25 (upd H' T' (.tup [.int (i : Nat), y])) := sm.trans (same_new nT)
         have eT : (upd H' T' (.tup [.int (i : Nat), y])) T' = some (.tup [.int (i : Nat), y]) := upd_same
         generalize upd H' T' (.tup [.int (i : Nat), y]) = H26 at s1 eT ⊢
         refine ⟨T', _, rfl, .inl (.inl eT), rfl, _, _, rfl, _, _, rfl, rfl, ?_⟩
         refine ⟨_, rfl, y, C, fs, i, rfl, he.same s1, ec_of Y.X hC, fun j D' hD' => Y.kit i j C D' hC hD', fun H27 p1 np1 s27 ep1 => ?_⟩
         have ep1' : H27 p1 = some (.lst ((bools i).map V.bl)) := by
           rw [ep1, bools, List.map_map]
           rfl
         refine ⟨18, rfl, by decide, by decide, fun lj nlj => lc_range (lo := 0) (n := 18) (fun k H' => Same H27 H' ∧ H' lj = some (.lst (((List.range k).map fun j => decide (j = i)).map V.bl))) ⟨same_new nlj, upd_same⟩ (fun k H' hk hp => ?_) (fun H' hp => ?_)⟩
         · obtain ⟨sm2, e2⟩ := hp
           refine ⟨rfl, _, rfl, _, rfl, rfl, _, e2, small1000 (by simp; omega), same_set sm2 nlj, ?_⟩
           rw [upd_same, List.range_succ, List.map_append, List.map_append]
           have ek : decide (k = i) = decide (V.int (0 + (k : Int)) = V.int (i : Nat)) := by
             refine decide_eq_decide.mpr ⟨fun z => by rw [z, Int.zero_add], fun z => ?_⟩
             have z' := V.int.inj z
             omega
           show _ = some (HO.lst (_ ++ [V.bl (decide (k = i))]))
           rw [ek]
         · obtain ⟨sm2, e2⟩ := hp
           have bq := bools_eqv i i18
           have s27' : Same H25 H' := (s1.trans s27).trans sm2
           refine ⟨.list ((bools i).map PyData.bool), .list ((bools i).map PyData.bool), .lst (.inl (.inl (sm2 _ _ ep1'))) (dp_bools _), .lst (.inl (.inl e2)) (dp_bools _), bq.2, bq.2, ?_⟩
           rw [bq.1]
           refine ⟨_, rfl, iteF ?_⟩
           have hm := List.mem_of_getElem? hC
           refine ⟨_, rfl, y, .ref Y.cap, .ref Y.cap, C, fs, _, rfl, he.same s27', ec_of Y.X hC, fun u h => h, Y.kCap C hm, ?_⟩
           refine ⟨_, rfl, iteF ⟨_, rfl, y, .ty "ValueError", .type "ValueError", C, fs, _, rfl, he.same s27', ec_of Y.X hC, fun u h => h, Y.kVE C hm, ?_⟩⟩
           exact ⟨_, rfl, iteF ⟨_, _, rfl, s27'⟩⟩
     · rintro σ H26 ⟨y17, y18, rfl, sm⟩
       refine ⟨fun σ' H' => ∃ l1, σ' = [some (.ref a), some (.ref D.a), some v1, some v2, some v3, some w0, some w1, some w3, some w4, some w6, some w9, some w11, some w13, some w15, some w16, some w17, some (.ref e3), y17, y18, some (.ref l1), none, none] ∧ Same H26 H' ∧ H' l1 = some (.lst [v1, v2, v3, v1, v2, v3, v1, v2]), ⟨_, rfl, _, f0.same sm, _, rfl, _, f1.same sm, _, rfl, _, f3.same sm, _, rfl, _, f4.same sm, _, rfl, _, f6.same sm, _, rfl, _, f9.same sm, _, rfl, _, f11.same sm, _, rfl, _, f13.same sm, by simp, fun l1 H27 n s e => ⟨l1, rfl, s, e⟩⟩, ?_⟩
       rintro σ H27 ⟨l1, rfl, s27, el1⟩
       refine ⟨fun σ' H' => ∃ l3, σ' = [some (.ref a), some (.ref D.a), some v1, some v2, some v3, some w0, some w1, some w3, some w4, some w6, some w9, some w11, some w13, some w15, some w16, some w17, some (.ref e3), y17, y18, some (.ref l3), none, none] ∧ Same H27 H' ∧ H27 l3 = none ∧ H' l3 = some (.lst [v1, v2, v3, v1, v2, v3, v1, v2, v3, v1, v2]), ⟨_, rfl, _, rfl, _, f15.same (sm.trans s27), _, rfl, _, f16.same (sm.trans s27), _, rfl, _, f17.same (sm.trans s27), by simp, fun l2 H28 n2 s2 e2 => ⟨l1, l2, _, _, rfl, rfl, s2 _ _ el1, e2, by simp, fun l3 H29 n3 s3 e3 => ⟨l3, rfl, s2.trans s3, Same.free s2 n3, e3⟩⟩⟩, ?_⟩
       rintro σ H29 ⟨l3, rfl, s29, nl3, el3⟩
       have d27 := d25.same (sm.trans s27)
       have s2529 := (sm.trans s27).trans s29
       have z3 := d27.at_ne nl3
       have tm : ∀ d ∈ [o1, o2, o3, o1, o2, o3, o1, o2, o3, o1, o2], Tame 2 20 d := by
         intro d hd
         simp only [List.mem_cons, List.not_mem_nil, or_false] at hd
         rcases hd with rfl | rfl | rfl | rfl | rfl | rfl | rfl | rfl | rfl | rfl | rfl <;> exact tame_odd _ (by assumption)
       have tf := (tame_lst tm (l := 11) (by simp)).fits (by decide) (by decide)
       have p1 := q1.keep d25 (Same.keep s2529)
       have p2 := q2.keep d25 (Same.keep s2529)
       have p3 := q3.keep d25 (Same.keep s2529)
       have hF : Hd D H29 (.ref l3) (.list [o1, o2, o3, o1, o2, o3, o1, o2, o3, o1, o2]) := .lst el3 z3.1 z3.2.1 (.cons p1 (.cons p2 (.cons p3 (.cons p1 (.cons p2 (.cons p3 (.cons p1 (.cons p2 (.cons p3 (.cons p1 (.cons p2 .nil)))))))))))
       have d29 := d25.same s2529
       refine ⟨fun σ' H' => ∃ y19, σ' = [some (.ref a), some (.ref D.a), some v1, some v2, some v3, some w0, some w1, some w3, some w4, some w6, some w9, some w11, some w13, some w15, some w16, some w17, some (.ref e3), y17, y18, y19, none, none] ∧ Same H29 H', ?_, ?_⟩
       · refine ⟨_, rfl, D, .ref l3, _, _, .inl rfl, rfl, hF, tf.1, tf.2.1, tf.2.2, _, rfl, _, rfl, _, rfl, _, rfl, _, rfl, _, rfl, _, rfl, _, rfl, _, rfl, _, rfl, _, rfl, by simp, fun l4 H30 n4 s4 e4 => ?_⟩
         have z4 := d29.at_ne n4
         have r1 := p1.keep d29 (Same.keep s4)
         have r2 := p2.keep d29 (Same.keep s4)
         have r3 := p3.keep d29 (Same.keep s4)
         have hF2 : Hd D H30 (.ref l4) (.list [o1, o2, o3, o1, o2, o3, o1, o2, o3, o1, o2]) := .lst e4 z4.1 z4.2.1 (.cons r1 (.cons r2 (.cons r3 (.cons r1 (.cons r2 (.cons r3 (.cons r1 (.cons r2 (.cons r3 (.cons r1 (.cons r2 .nil)))))))))))
         refine ⟨D, .ref l4, _, _, .inl rfl, rfl, hF2, tf.1, tf.2.1, tf.2.2, rfl, ?_⟩
         rw [decide_eq_true rfl]
         exact ⟨_, rfl, iteF ⟨_, rfl, s4⟩⟩
       rintro σ H31 ⟨y19, rfl, s31⟩
       refine ⟨fun σ' H' => ∃ l5, σ' = [some (.ref a), some (.ref D.a), some v1, some v2, some v3, some w0, some w1, some w3, some w4, some w6, some w9, some w11, some w13, some w15, some w16, some w17, some (.ref e3), y17, y18, y19, some (.ref l5), none] ∧ Same H31 H' ∧ H31 l5 = none ∧ H' l5 = some (.lst limV), ⟨by simp, fun l5 H32 n5 s5 e5 => ⟨l5, rfl, s5, n5, e5⟩⟩, ?_⟩
       rintro σ H32 ⟨l5, rfl, s32, n5, e5⟩
       have d31 := d29.same s31
       have d32 := d31.same s32
       have z5 := d31.at_ne n5
       refine ⟨_, rfl, D, .ref l5, _, _, .inl rfl, rfl, .lst e5 z5.1 z5.2.1 hd_lim, tame_lim.1, tame_lim.2.1, tame_lim.2.2, _, _, rfl, rfl, ⟨by decide, by decide, by decide⟩, _, _, rfl, rfl, ⟨by decide, by decide, by decide⟩, by simp, fun l6 H33 n6 s6 e6 => ?_⟩
       have z6 := d32.at_ne n6
       dsimp only at e6
       rw [show (10 : Int) ^ (12 : Int).toNat = 1000000000000 by decide +kernel, show (10 : Int) ^ (6 : Int).toNat = 1000000 by decide +kernel] at e6
       refine ⟨D, .ref l6, _, _, .inl rfl, rfl, .lst e6 z6.1 z6.2.1 hd_lim, tame_lim.1, tame_lim.2.1, tame_lim.2.2, rfl, ?_⟩
       rw [decide_eq_true rfl]
       exact q _
    obtain ⟨t, h1, h2⟩ := both
    exact ⟨t, h1.nox, h2⟩
end
end My

set_option maxHeartbeats 4000000
namespace My
open PySem PySem.Spec PyProof.Rows L2
def kitAll (K : PySem.W.Frag) (cs : List Addr) : Bool := (List.range 18).all fun i => (List.range 18).all fun j => decide (PySem.W.kitOne K (.ref (cs.getD i 0)) (.ref (cs.getD j 0)) = some (decide (j = i)))
def kitTo (K : PySem.W.Frag) (cs : List Addr) (c : Value) : Bool := cs.all fun C => decide (PySem.W.kitOne K (.ref C) c = some true)
theorem getD_at {cs : List Addr} {i : Nat} {C : Addr} (h : cs[i]? = some C) : cs.getD i 0 = C := by rw [List.getD_eq_getElem?_getD, h]; rfl
theorem kitAll_at {K : PySem.W.Frag} {cs : List Addr} (hl : cs.length = 18) (h : kitAll K cs = true) {i j : Nat} {C D : Addr} (h1 : cs[i]? = some C) (h2 : cs[j]? = some D) : PySem.W.kitOne K (.ref C) (.ref D) = some (decide (j = i)) := by
  have i18 : i < 18 := by have := (List.getElem?_eq_some_iff.mp h1).1; omega
  have j18 : j < 18 := by have := (List.getElem?_eq_some_iff.mp h2).1; omega
  have z := List.all_eq_true.mp (List.all_eq_true.mp h i (List.mem_range.mpr i18)) j (List.mem_range.mpr j18)
  rw [getD_at h1, getD_at h2] at z
  exact of_decide_eq_true z
theorem kitTo_at {K : PySem.W.Frag} {cs : List Addr} {c : Value} (h : kitTo K cs c = true) {C : Addr} (hm : C ∈ cs) : PySem.W.kitOne K (.ref C) c = some true := of_decide_eq_true (List.all_eq_true.mp h C hm)
theorem all_mk {P : Program} {w : World} {K : PySem.W.Frag} {h : Heap} {mg : Str → Option Value} {fa : Addr} (X : K.In h) (G : h.Ns mainGlobals mg) (hfa : mg "law" = some (.ref fa))
    {f0 : Addr} {od0 an0 : Option Addr} {sl0 : Array (Option Value)} {oc0 kV0 dc0 pm0 cd0 ct0 : Value}
    {f1 : Addr} {od1 an1 : Option Addr} {sl1 : Array (Option Value)} {oc1 kV1 dc1 pm1 cd1 ct1 : Value}
    {f2 : Addr} {od2 an2 : Option Addr} {sl2 : Array (Option Value)} {oc2 kV2 dc2 pm2 cd2 ct2 : Value}
    {f3 : Addr} {od3 an3 : Option Addr} {sl3 : Array (Option Value)} {oc3 kV3 dc3 pm3 cd3 ct3 : Value}
    {f4 : Addr} {od4 an4 : Option Addr} {sl4 : Array (Option Value)} {oc4 kV4 dc4 pm4 cd4 ct4 : Value}
    {C0 I0 N0 : Addr} {nm0 q0 : Str} {bs0 bm0 : List Value} {sn0 : List Str} {sb0 : List Value} {ab0 : Bool} {co0 : Option Bool} {dd0 : Option Addr} {u0 v0 w0 x0 y0 : Option Value} {od_0 an_0 : Option Addr} {sl_0 : Array (Option Value)} {oc_0 dc_0 pm_0 cd_0 ct_0 kV_0 : Value}
    {C1 I1 N1 : Addr} {nm1 q1 : Str} {bs1 bm1 : List Value} {sn1 : List Str} {sb1 : List Value} {ab1 : Bool} {co1 : Option Bool} {dd1 : Option Addr} {u1 v1 w1 x1 y1 : Option Value} {od_1 an_1 : Option Addr} {sl_1 : Array (Option Value)} {oc_1 dc_1 pm_1 cd_1 ct_1 kV_1 : Value}
    {C2 I2 N2 : Addr} {nm2 q2 : Str} {bs2 bm2 : List Value} {sn2 : List Str} {sb2 : List Value} {ab2 : Bool} {co2 : Option Bool} {dd2 : Option Addr} {u2 v2 w2 x2 y2 : Option Value} {od_2 an_2 : Option Addr} {sl_2 : Array (Option Value)} {oc_2 dc_2 pm_2 cd_2 ct_2 kV_2 : Value}
    {C3 I3 N3 : Addr} {nm3 q3 : Str} {bs3 bm3 : List Value} {sn3 : List Str} {sb3 : List Value} {ab3 : Bool} {co3 : Option Bool} {dd3 : Option Addr} {u3 v3 w3 x3 y3 : Option Value} {od_3 an_3 : Option Addr} {sl_3 : Array (Option Value)} {oc_3 dc_3 pm_3 cd_3 ct_3 kV_3 : Value}
    {C4 I4 N4 : Addr} {nm4 q4 : Str} {bs4 bm4 : List Value} {sn4 : List Str} {sb4 : List Value} {ab4 : Bool} {co4 : Option Bool} {dd4 : Option Addr} {u4 v4 w4 x4 y4 : Option Value} {od_4 an_4 : Option Addr} {sl_4 : Array (Option Value)} {oc_4 dc_4 pm_4 cd_4 ct_4 kV_4 : Value}
    {C5 I5 N5 : Addr} {nm5 q5 : Str} {bs5 bm5 : List Value} {sn5 : List Str} {sb5 : List Value} {ab5 : Bool} {co5 : Option Bool} {dd5 : Option Addr} {u5 v5 w5 x5 y5 : Option Value} {od_5 an_5 : Option Addr} {sl_5 : Array (Option Value)} {oc_5 dc_5 pm_5 cd_5 ct_5 kV_5 : Value}
    {C6 I6 N6 : Addr} {nm6 q6 : Str} {bs6 bm6 : List Value} {sn6 : List Str} {sb6 : List Value} {ab6 : Bool} {co6 : Option Bool} {dd6 : Option Addr} {u6 v6 w6 x6 y6 : Option Value} {od_6 an_6 : Option Addr} {sl_6 : Array (Option Value)} {oc_6 dc_6 pm_6 cd_6 ct_6 kV_6 : Value}
    {C7 I7 N7 : Addr} {nm7 q7 : Str} {bs7 bm7 : List Value} {sn7 : List Str} {sb7 : List Value} {ab7 : Bool} {co7 : Option Bool} {dd7 : Option Addr} {u7 v7 w7 x7 y7 : Option Value} {od_7 an_7 : Option Addr} {sl_7 : Array (Option Value)} {oc_7 dc_7 pm_7 cd_7 ct_7 kV_7 : Value}
    {C8 I8 N8 : Addr} {nm8 q8 : Str} {bs8 bm8 : List Value} {sn8 : List Str} {sb8 : List Value} {ab8 : Bool} {co8 : Option Bool} {dd8 : Option Addr} {u8 v8 w8 x8 y8 : Option Value} {od_8 an_8 : Option Addr} {sl_8 : Array (Option Value)} {oc_8 dc_8 pm_8 cd_8 ct_8 kV_8 : Value}
    {C9 I9 N9 : Addr} {nm9 q9 : Str} {bs9 bm9 : List Value} {sn9 : List Str} {sb9 : List Value} {ab9 : Bool} {co9 : Option Bool} {dd9 : Option Addr} {u9 v9 w9 x9 y9 : Option Value} {od_9 an_9 : Option Addr} {sl_9 : Array (Option Value)} {oc_9 dc_9 pm_9 cd_9 ct_9 kV_9 : Value}
    {C10 I10 N10 : Addr} {nm10 q10 : Str} {bs10 bm10 : List Value} {sn10 : List Str} {sb10 : List Value} {ab10 : Bool} {co10 : Option Bool} {dd10 : Option Addr} {u10 v10 w10 x10 y10 : Option Value} {od_10 an_10 : Option Addr} {sl_10 : Array (Option Value)} {oc_10 dc_10 pm_10 cd_10 ct_10 kV_10 : Value}
    {P1 : Addr}
    {Q0 : Addr}
    {Q1 : Addr}
    {Q2 : Addr}
    {Q3 : Addr}
    {Q4 : Addr}
    {Q5 : Addr}
    {Q6 : Addr}
    {tk0 tk1 tk2 tk3 tk4 tk5 tk6 tk7 tk8 : Tok}
    (a0 : PySem.W.nsIn K mainGlobals "_law_deck" = some (some (.ref f0))) (l0 : K.lookup f0 = some ⟨oc0, od0, .func (PySem.W.fnOf "_law_deck" "_law_deck" (defArgs s_q_deck) (defBody s_q_deck) (defScope s_q_deck) .none kV0 dc0 pm0 an0 cd0 ct0), sl0⟩) (c0 : PySem.W.codeIn K cd0 "_law_deck" = true) (k0 : PySem.W.keepIn K (.ref f0) = true)
    (a1 : PySem.W.nsIn K mainGlobals "_law_next" = some (some (.ref f1))) (l1 : K.lookup f1 = some ⟨oc1, od1, .func (PySem.W.fnOf "_law_next" "_law_next" (defArgs s_q_next) (defBody s_q_next) (defScope s_q_next) .none kV1 dc1 pm1 an1 cd1 ct1), sl1⟩) (c1 : PySem.W.codeIn K cd1 "_law_next" = true) (k1 : PySem.W.keepIn K (.ref f1) = true)
    (a2 : PySem.W.nsIn K mainGlobals "_law_odd" = some (some (.ref f2))) (l2 : K.lookup f2 = some ⟨oc2, od2, .func (PySem.W.fnOf "_law_odd" "_law_odd" (defArgs s_q_odd) (defBody s_q_odd) (defScope s_q_odd) .none kV2 dc2 pm2 an2 cd2 ct2), sl2⟩) (c2 : PySem.W.codeIn K cd2 "_law_odd" = true) (k2 : PySem.W.keepIn K (.ref f2) = true)
    (a3 : PySem.W.nsIn K mainGlobals "_law_kinds" = some (some (.ref f3))) (l3 : K.lookup f3 = some ⟨oc3, od3, .func (PySem.W.fnOf "_law_kinds" "_law_kinds" (defArgs s_q_kinds) (defBody s_q_kinds) (defScope s_q_kinds) .none kV3 dc3 pm3 an3 cd3 ct3), sl3⟩) (c3 : PySem.W.codeIn K cd3 "_law_kinds" = true) (k3 : PySem.W.keepIn K (.ref f3) = true)
    (a4 : PySem.W.nsIn K mainGlobals "law" = some (some (.ref f4))) (l4 : K.lookup f4 = some ⟨oc4, od4, .func (PySem.W.fnOf "law" "law" (defArgs s_law) (defBody s_law) (defScope s_law) .none kV4 dc4 pm4 an4 cd4 ct4), sl4⟩) (c4 : PySem.W.codeIn K cd4 "law" = true) (k4 : PySem.W.keepIn K (.ref f4) = true)
    (z0 : PySem.W.nsIn K mainGlobals "enumerate" = some none)
    (z1 : PySem.W.nsIn K mainGlobals "abs" = some none)
    (z2 : PySem.W.nsIn K mainGlobals "isinstance" = some none)
    (z3 : PySem.W.nsIn K mainGlobals "repr" = some none)
    (z4 : PySem.W.nsIn K mainGlobals "len" = some none)
    (z5 : PySem.W.nsIn K mainGlobals "range" = some none)
    (eA0 : PySem.W.nsIn K mainGlobals "NoItem" = some (some (.ref C0))) (eL0 : K.lookup C0 = some (excClassObj nm0 q0 C0 N0 bs0 bm0 true sn0 sb0 ab0 co0 dd0 u0 v0 w0 x0 y0 "ValueError.__new__")) (eR0 : PySem.HandSPX.refsVE bm0 = true)
    (eS0 : PySem.W.findIn K (.ref C0) "__setattr__" = some (some (.builtin "object.__setattr__"))) (eX0 : PySem.W.subIn K (.ref C0) (.type "BaseException") = some true) (eT0 : PySem.W.typeIn K (.ref C0) = some (.type "type")) (eK0 : PySem.W.keepIn K (.ref C0) = true)
    (eI0 : PySem.W.findIn K (.ref C0) "__init__" = some (some (.ref I0))) (eY0 : PySem.W.typeIn K (.ref I0) = some (.type "function")) (eM0 : K.lookup I0 = some ⟨oc_0, od_0, .func (PySem.W.fnOf "__init__" "NoItem.__init__" (defArgs (sI 2)) (defBody (sI 2)) (defScope (sI 2)) .none kV_0 dc_0 pm_0 an_0 cd_0 ct_0), sl_0⟩) (eC0 : PySem.W.codeIn K cd_0 "NoItem.__init__" = true) (eJ0 : PySem.W.keepIn K (.ref I0) = true)
    (eN0 : PySem.W.findIn K (.ref C0) "item" = some none) (eG0 : PySem.W.findIn K (.ref C0) "__getattribute__" = some (some (.builtin "BaseException.__getattribute__"))) (eH0 : PySem.W.findIn K (.ref C0) "__getattr__" = some none) (eD0 : PySem.W.hasDictIn K C0 = true)
    (eP0 : PySem.W.findIn K (.ref C0) "__class__" = some (some (.builtin "object.__class__"))) (eO0 : PySem.W.mroIn K C0 (.type "object") = some true)
    (eA1 : PySem.W.nsIn K mainGlobals "NoUnits" = some (some (.ref C1))) (eL1 : K.lookup C1 = some (excClassObj nm1 q1 C1 N1 bs1 bm1 true sn1 sb1 ab1 co1 dd1 u1 v1 w1 x1 y1 "ValueError.__new__")) (eR1 : PySem.HandSPX.refsVE bm1 = true)
    (eS1 : PySem.W.findIn K (.ref C1) "__setattr__" = some (some (.builtin "object.__setattr__"))) (eX1 : PySem.W.subIn K (.ref C1) (.type "BaseException") = some true) (eT1 : PySem.W.typeIn K (.ref C1) = some (.type "type")) (eK1 : PySem.W.keepIn K (.ref C1) = true)
    (eI1 : PySem.W.findIn K (.ref C1) "__init__" = some (some (.ref I1))) (eY1 : PySem.W.typeIn K (.ref I1) = some (.type "function")) (eM1 : K.lookup I1 = some ⟨oc_1, od_1, .func (PySem.W.fnOf "__init__" "NoUnits.__init__" (defArgs (sI 3)) (defBody (sI 3)) (defScope (sI 3)) .none kV_1 dc_1 pm_1 an_1 cd_1 ct_1), sl_1⟩) (eC1 : PySem.W.codeIn K cd_1 "NoUnits.__init__" = true) (eJ1 : PySem.W.keepIn K (.ref I1) = true)
    (eN1 : PySem.W.findIn K (.ref C1) "units" = some none) (eG1 : PySem.W.findIn K (.ref C1) "__getattribute__" = some (some (.builtin "BaseException.__getattribute__"))) (eH1 : PySem.W.findIn K (.ref C1) "__getattr__" = some none) (eD1 : PySem.W.hasDictIn K C1 = true)
    (eP1 : PySem.W.findIn K (.ref C1) "__class__" = some (some (.builtin "object.__class__"))) (eO1 : PySem.W.mroIn K C1 (.type "object") = some true)
    (eA2 : PySem.W.nsIn K mainGlobals "NoFit" = some (some (.ref C2))) (eL2 : K.lookup C2 = some (excClassObj nm2 q2 C2 N2 bs2 bm2 true sn2 sb2 ab2 co2 dd2 u2 v2 w2 x2 y2 "ValueError.__new__")) (eR2 : PySem.HandSPX.refsVE bm2 = true)
    (eS2 : PySem.W.findIn K (.ref C2) "__setattr__" = some (some (.builtin "object.__setattr__"))) (eX2 : PySem.W.subIn K (.ref C2) (.type "BaseException") = some true) (eT2 : PySem.W.typeIn K (.ref C2) = some (.type "type")) (eK2 : PySem.W.keepIn K (.ref C2) = true)
    (eI2 : PySem.W.findIn K (.ref C2) "__init__" = some (some (.ref I2))) (eY2 : PySem.W.typeIn K (.ref I2) = some (.type "function")) (eM2 : K.lookup I2 = some ⟨oc_2, od_2, .func (PySem.W.fnOf "__init__" "NoFit.__init__" (defArgs (sI 5)) (defBody (sI 5)) (defScope (sI 5)) .none kV_2 dc_2 pm_2 an_2 cd_2 ct_2), sl_2⟩) (eC2 : PySem.W.codeIn K cd_2 "NoFit.__init__" = true) (eJ2 : PySem.W.keepIn K (.ref I2) = true)
    (eN2 : PySem.W.findIn K (.ref C2) "contradiction" = some none) (eG2 : PySem.W.findIn K (.ref C2) "__getattribute__" = some (some (.builtin "BaseException.__getattribute__"))) (eH2 : PySem.W.findIn K (.ref C2) "__getattr__" = some none) (eD2 : PySem.W.hasDictIn K C2 = true)
    (eP2 : PySem.W.findIn K (.ref C2) "__class__" = some (some (.builtin "object.__class__"))) (eO2 : PySem.W.mroIn K C2 (.type "object") = some true)
    (eA3 : PySem.W.nsIn K mainGlobals "NoTotal" = some (some (.ref C3))) (eL3 : K.lookup C3 = some (excClassObj nm3 q3 C3 N3 bs3 bm3 true sn3 sb3 ab3 co3 dd3 u3 v3 w3 x3 y3 "ValueError.__new__")) (eR3 : PySem.HandSPX.refsVE bm3 = true)
    (eS3 : PySem.W.findIn K (.ref C3) "__setattr__" = some (some (.builtin "object.__setattr__"))) (eX3 : PySem.W.subIn K (.ref C3) (.type "BaseException") = some true) (eT3 : PySem.W.typeIn K (.ref C3) = some (.type "type")) (eK3 : PySem.W.keepIn K (.ref C3) = true)
    (eI3 : PySem.W.findIn K (.ref C3) "__init__" = some (some (.ref I3))) (eY3 : PySem.W.typeIn K (.ref I3) = some (.type "function")) (eM3 : K.lookup I3 = some ⟨oc_3, od_3, .func (PySem.W.fnOf "__init__" "NoTotal.__init__" (defArgs (sI 6)) (defBody (sI 6)) (defScope (sI 6)) .none kV_3 dc_3 pm_3 an_3 cd_3 ct_3), sl_3⟩) (eC3 : PySem.W.codeIn K cd_3 "NoTotal.__init__" = true) (eJ3 : PySem.W.keepIn K (.ref I3) = true)
    (eN3 : PySem.W.findIn K (.ref C3) "total" = some none) (eG3 : PySem.W.findIn K (.ref C3) "__getattribute__" = some (some (.builtin "BaseException.__getattribute__"))) (eH3 : PySem.W.findIn K (.ref C3) "__getattr__" = some none) (eD3 : PySem.W.hasDictIn K C3 = true)
    (eP3 : PySem.W.findIn K (.ref C3) "__class__" = some (some (.builtin "object.__class__"))) (eO3 : PySem.W.mroIn K C3 (.type "object") = some true)
    (eA4 : PySem.W.nsIn K mainGlobals "TooMany" = some (some (.ref C4))) (eL4 : K.lookup C4 = some (excClassObj nm4 q4 C4 N4 bs4 bm4 true sn4 sb4 ab4 co4 dd4 u4 v4 w4 x4 y4 "ValueError.__new__")) (eR4 : PySem.HandSPX.refsVE bm4 = true)
    (eS4 : PySem.W.findIn K (.ref C4) "__setattr__" = some (some (.builtin "object.__setattr__"))) (eX4 : PySem.W.subIn K (.ref C4) (.type "BaseException") = some true) (eT4 : PySem.W.typeIn K (.ref C4) = some (.type "type")) (eK4 : PySem.W.keepIn K (.ref C4) = true)
    (eI4 : PySem.W.findIn K (.ref C4) "__init__" = some (some (.ref I4))) (eY4 : PySem.W.typeIn K (.ref I4) = some (.type "function")) (eM4 : K.lookup I4 = some ⟨oc_4, od_4, .func (PySem.W.fnOf "__init__" "TooMany.__init__" (defArgs (sI 8)) (defBody (sI 8)) (defScope (sI 8)) .none kV_4 dc_4 pm_4 an_4 cd_4 ct_4), sl_4⟩) (eC4 : PySem.W.codeIn K cd_4 "TooMany.__init__" = true) (eJ4 : PySem.W.keepIn K (.ref I4) = true)
    (eN4 : PySem.W.findIn K (.ref C4) "limit" = some none) (eG4 : PySem.W.findIn K (.ref C4) "__getattribute__" = some (some (.builtin "BaseException.__getattribute__"))) (eH4 : PySem.W.findIn K (.ref C4) "__getattr__" = some none) (eD4 : PySem.W.hasDictIn K C4 = true)
    (eP4 : PySem.W.findIn K (.ref C4) "__class__" = some (some (.builtin "object.__class__"))) (eO4 : PySem.W.mroIn K C4 (.type "object") = some true)
    (eA5 : PySem.W.nsIn K mainGlobals "NoNumber" = some (some (.ref C5))) (eL5 : K.lookup C5 = some (excClassObj nm5 q5 C5 N5 bs5 bm5 true sn5 sb5 ab5 co5 dd5 u5 v5 w5 x5 y5 "ValueError.__new__")) (eR5 : PySem.HandSPX.refsVE bm5 = true)
    (eS5 : PySem.W.findIn K (.ref C5) "__setattr__" = some (some (.builtin "object.__setattr__"))) (eX5 : PySem.W.subIn K (.ref C5) (.type "BaseException") = some true) (eT5 : PySem.W.typeIn K (.ref C5) = some (.type "type")) (eK5 : PySem.W.keepIn K (.ref C5) = true)
    (eI5 : PySem.W.findIn K (.ref C5) "__init__" = some (some (.ref I5))) (eY5 : PySem.W.typeIn K (.ref I5) = some (.type "function")) (eM5 : K.lookup I5 = some ⟨oc_5, od_5, .func (PySem.W.fnOf "__init__" "NoNumber.__init__" (defArgs (sI 11)) (defBody (sI 11)) (defScope (sI 11)) .none kV_5 dc_5 pm_5 an_5 cd_5 ct_5), sl_5⟩) (eC5 : PySem.W.codeIn K cd_5 "NoNumber.__init__" = true) (eJ5 : PySem.W.keepIn K (.ref I5) = true)
    (eN5 : PySem.W.findIn K (.ref C5) "number" = some none) (eG5 : PySem.W.findIn K (.ref C5) "__getattribute__" = some (some (.builtin "BaseException.__getattribute__"))) (eH5 : PySem.W.findIn K (.ref C5) "__getattr__" = some none) (eD5 : PySem.W.hasDictIn K C5 = true)
    (eP5 : PySem.W.findIn K (.ref C5) "__class__" = some (some (.builtin "object.__class__"))) (eO5 : PySem.W.mroIn K C5 (.type "object") = some true)
    (eA6 : PySem.W.nsIn K mainGlobals "BadSystem" = some (some (.ref C6))) (eL6 : K.lookup C6 = some (excClassObj nm6 q6 C6 N6 bs6 bm6 true sn6 sb6 ab6 co6 dd6 u6 v6 w6 x6 y6 "ValueError.__new__")) (eR6 : PySem.HandSPX.refsVE bm6 = true)
    (eS6 : PySem.W.findIn K (.ref C6) "__setattr__" = some (some (.builtin "object.__setattr__"))) (eX6 : PySem.W.subIn K (.ref C6) (.type "BaseException") = some true) (eT6 : PySem.W.typeIn K (.ref C6) = some (.type "type")) (eK6 : PySem.W.keepIn K (.ref C6) = true)
    (eI6 : PySem.W.findIn K (.ref C6) "__init__" = some (some (.ref I6))) (eY6 : PySem.W.typeIn K (.ref I6) = some (.type "function")) (eM6 : K.lookup I6 = some ⟨oc_6, od_6, .func (PySem.W.fnOf "__init__" "BadSystem.__init__" (defArgs (sI 13)) (defBody (sI 13)) (defScope (sI 13)) .none kV_6 dc_6 pm_6 an_6 cd_6 ct_6), sl_6⟩) (eC6 : PySem.W.codeIn K cd_6 "BadSystem.__init__" = true) (eJ6 : PySem.W.keepIn K (.ref I6) = true)
    (eN6 : PySem.W.findIn K (.ref C6) "error" = some none) (eG6 : PySem.W.findIn K (.ref C6) "__getattribute__" = some (some (.builtin "BaseException.__getattribute__"))) (eH6 : PySem.W.findIn K (.ref C6) "__getattr__" = some none) (eD6 : PySem.W.hasDictIn K C6 = true)
    (eP6 : PySem.W.findIn K (.ref C6) "__class__" = some (some (.builtin "object.__class__"))) (eO6 : PySem.W.mroIn K C6 (.type "object") = some true)
    (eA7 : PySem.W.nsIn K mainGlobals "NoMoment" = some (some (.ref C7))) (eL7 : K.lookup C7 = some (excClassObj nm7 q7 C7 N7 bs7 bm7 true sn7 sb7 ab7 co7 dd7 u7 v7 w7 x7 y7 "ValueError.__new__")) (eR7 : PySem.HandSPX.refsVE bm7 = true)
    (eS7 : PySem.W.findIn K (.ref C7) "__setattr__" = some (some (.builtin "object.__setattr__"))) (eX7 : PySem.W.subIn K (.ref C7) (.type "BaseException") = some true) (eT7 : PySem.W.typeIn K (.ref C7) = some (.type "type")) (eK7 : PySem.W.keepIn K (.ref C7) = true)
    (eI7 : PySem.W.findIn K (.ref C7) "__init__" = some (some (.ref I7))) (eY7 : PySem.W.typeIn K (.ref I7) = some (.type "function")) (eM7 : K.lookup I7 = some ⟨oc_7, od_7, .func (PySem.W.fnOf "__init__" "NoMoment.__init__" (defArgs (sI 15)) (defBody (sI 15)) (defScope (sI 15)) .none kV_7 dc_7 pm_7 an_7 cd_7 ct_7), sl_7⟩) (eC7 : PySem.W.codeIn K cd_7 "NoMoment.__init__" = true) (eJ7 : PySem.W.keepIn K (.ref I7) = true)
    (eN7 : PySem.W.findIn K (.ref C7) "at" = some none) (eG7 : PySem.W.findIn K (.ref C7) "__getattribute__" = some (some (.builtin "BaseException.__getattribute__"))) (eH7 : PySem.W.findIn K (.ref C7) "__getattr__" = some none) (eD7 : PySem.W.hasDictIn K C7 = true)
    (eP7 : PySem.W.findIn K (.ref C7) "__class__" = some (some (.builtin "object.__class__"))) (eO7 : PySem.W.mroIn K C7 (.type "object") = some true)
    (eA8 : PySem.W.nsIn K mainGlobals "Failed" = some (some (.ref C8))) (eL8 : K.lookup C8 = some (excClassObj nm8 q8 C8 N8 bs8 bm8 true sn8 sb8 ab8 co8 dd8 u8 v8 w8 x8 y8 "ValueError.__new__")) (eR8 : PySem.HandSPX.refsVE bm8 = true)
    (eS8 : PySem.W.findIn K (.ref C8) "__setattr__" = some (some (.builtin "object.__setattr__"))) (eX8 : PySem.W.subIn K (.ref C8) (.type "BaseException") = some true) (eT8 : PySem.W.typeIn K (.ref C8) = some (.type "type")) (eK8 : PySem.W.keepIn K (.ref C8) = true)
    (eI8 : PySem.W.findIn K (.ref C8) "__init__" = some (some (.ref I8))) (eY8 : PySem.W.typeIn K (.ref I8) = some (.type "function")) (eM8 : K.lookup I8 = some ⟨oc_8, od_8, .func (PySem.W.fnOf "__init__" "Failed.__init__" (defArgs (sI 17)) (defBody (sI 17)) (defScope (sI 17)) .none kV_8 dc_8 pm_8 an_8 cd_8 ct_8), sl_8⟩) (eC8 : PySem.W.codeIn K cd_8 "Failed.__init__" = true) (eJ8 : PySem.W.keepIn K (.ref I8) = true)
    (eN8 : PySem.W.findIn K (.ref C8) "index" = some none) (eG8 : PySem.W.findIn K (.ref C8) "__getattribute__" = some (some (.builtin "BaseException.__getattribute__"))) (eH8 : PySem.W.findIn K (.ref C8) "__getattr__" = some none) (eD8 : PySem.W.hasDictIn K C8 = true)
    (eP8 : PySem.W.findIn K (.ref C8) "__class__" = some (some (.builtin "object.__class__"))) (eO8 : PySem.W.mroIn K C8 (.type "object") = some true)
    (eA9 : PySem.W.nsIn K mainGlobals "Blocked" = some (some (.ref C9))) (eL9 : K.lookup C9 = some (excClassObj nm9 q9 C9 N9 bs9 bm9 true sn9 sb9 ab9 co9 dd9 u9 v9 w9 x9 y9 "ValueError.__new__")) (eR9 : PySem.HandSPX.refsVE bm9 = true)
    (eS9 : PySem.W.findIn K (.ref C9) "__setattr__" = some (some (.builtin "object.__setattr__"))) (eX9 : PySem.W.subIn K (.ref C9) (.type "BaseException") = some true) (eT9 : PySem.W.typeIn K (.ref C9) = some (.type "type")) (eK9 : PySem.W.keepIn K (.ref C9) = true)
    (eI9 : PySem.W.findIn K (.ref C9) "__init__" = some (some (.ref I9))) (eY9 : PySem.W.typeIn K (.ref I9) = some (.type "function")) (eM9 : K.lookup I9 = some ⟨oc_9, od_9, .func (PySem.W.fnOf "__init__" "Blocked.__init__" (defArgs (sI 18)) (defBody (sI 18)) (defScope (sI 18)) .none kV_9 dc_9 pm_9 an_9 cd_9 ct_9), sl_9⟩) (eC9 : PySem.W.codeIn K cd_9 "Blocked.__init__" = true) (eJ9 : PySem.W.keepIn K (.ref I9) = true)
    (eN9 : PySem.W.findIn K (.ref C9) "contradiction" = some none) (eG9 : PySem.W.findIn K (.ref C9) "__getattribute__" = some (some (.builtin "BaseException.__getattribute__"))) (eH9 : PySem.W.findIn K (.ref C9) "__getattr__" = some none) (eD9 : PySem.W.hasDictIn K C9 = true)
    (eP9 : PySem.W.findIn K (.ref C9) "__class__" = some (some (.builtin "object.__class__"))) (eO9 : PySem.W.mroIn K C9 (.type "object") = some true)
    (eA10 : PySem.W.nsIn K mainGlobals "BadText" = some (some (.ref C10))) (eL10 : K.lookup C10 = some (excClassObj nm10 q10 C10 N10 bs10 bm10 true sn10 sb10 ab10 co10 dd10 u10 v10 w10 x10 y10 "ValueError.__new__")) (eR10 : PySem.HandSPX.refsVE bm10 = true)
    (eS10 : PySem.W.findIn K (.ref C10) "__setattr__" = some (some (.builtin "object.__setattr__"))) (eX10 : PySem.W.subIn K (.ref C10) (.type "BaseException") = some true) (eT10 : PySem.W.typeIn K (.ref C10) = some (.type "type")) (eK10 : PySem.W.keepIn K (.ref C10) = true)
    (eI10 : PySem.W.findIn K (.ref C10) "__init__" = some (some (.ref I10))) (eY10 : PySem.W.typeIn K (.ref I10) = some (.type "function")) (eM10 : K.lookup I10 = some ⟨oc_10, od_10, .func (PySem.W.fnOf "__init__" "BadText.__init__" (defArgs (sI 19)) (defBody (sI 19)) (defScope (sI 19)) .none kV_10 dc_10 pm_10 an_10 cd_10 ct_10), sl_10⟩) (eC10 : PySem.W.codeIn K cd_10 "BadText.__init__" = true) (eJ10 : PySem.W.keepIn K (.ref I10) = true)
    (eN10 : PySem.W.findIn K (.ref C10) "line" = some none) (eG10 : PySem.W.findIn K (.ref C10) "__getattribute__" = some (some (.builtin "BaseException.__getattribute__"))) (eH10 : PySem.W.findIn K (.ref C10) "__getattr__" = some none) (eD10 : PySem.W.hasDictIn K C10 = true)
    (eP10 : PySem.W.findIn K (.ref C10) "__class__" = some (some (.builtin "object.__class__"))) (eO10 : PySem.W.mroIn K C10 (.type "object") = some true)
    (sp1 : PySem.W.specialIn K (.builtin "object.__class__") "__get__" = some (some (.builtin "getset_descriptor.__get__"))) (sp2 : PySem.W.takesIn K (.builtin "object.__class__") = some true)
    (pA1 : PySem.W.nsIn K mainGlobals "CapError" = some (some (.ref P1)))
    (gA0 : PySem.W.nsIn K mainGlobals "NoPlan" = some (some (.ref Q0))) (gX0 : PySem.W.excIn K Q0 [.type "ValueError", .type "Exception", .type "BaseException", .type "object"] "ValueError.__new__" = true) (gK0 : PySem.W.keepIn K (.ref Q0) = true)
    (gG0 : PySem.W.findIn K (.ref Q0) "__getattribute__" = some (some (.builtin "BaseException.__getattribute__"))) (gH0 : PySem.W.findIn K (.ref Q0) "__getattr__" = some none) (gS0 : PySem.W.subIn K (.ref Q0) (.type "BaseException") = some true) (gD0 : PySem.W.hasDictIn K Q0 = true)
    (gP0 : PySem.W.findIn K (.ref Q0) "__class__" = some (some (.builtin "object.__class__"))) (gO0 : PySem.W.mroIn K Q0 (.type "object") = some true)
    (gA1 : PySem.W.nsIn K mainGlobals "NoExchange" = some (some (.ref Q1))) (gX1 : PySem.W.excIn K Q1 [.type "ValueError", .type "Exception", .type "BaseException", .type "object"] "ValueError.__new__" = true) (gK1 : PySem.W.keepIn K (.ref Q1) = true)
    (gG1 : PySem.W.findIn K (.ref Q1) "__getattribute__" = some (some (.builtin "BaseException.__getattribute__"))) (gH1 : PySem.W.findIn K (.ref Q1) "__getattr__" = some none) (gS1 : PySem.W.subIn K (.ref Q1) (.type "BaseException") = some true) (gD1 : PySem.W.hasDictIn K Q1 = true)
    (gP1 : PySem.W.findIn K (.ref Q1) "__class__" = some (some (.builtin "object.__class__"))) (gO1 : PySem.W.mroIn K Q1 (.type "object") = some true)
    (gA2 : PySem.W.nsIn K mainGlobals "NoGains" = some (some (.ref Q2))) (gX2 : PySem.W.excIn K Q2 [.type "ValueError", .type "Exception", .type "BaseException", .type "object"] "ValueError.__new__" = true) (gK2 : PySem.W.keepIn K (.ref Q2) = true)
    (gG2 : PySem.W.findIn K (.ref Q2) "__getattribute__" = some (some (.builtin "BaseException.__getattribute__"))) (gH2 : PySem.W.findIn K (.ref Q2) "__getattr__" = some none) (gS2 : PySem.W.subIn K (.ref Q2) (.type "BaseException") = some true) (gD2 : PySem.W.hasDictIn K Q2 = true)
    (gP2 : PySem.W.findIn K (.ref Q2) "__class__" = some (some (.builtin "object.__class__"))) (gO2 : PySem.W.mroIn K Q2 (.type "object") = some true)
    (gA3 : PySem.W.nsIn K mainGlobals "NoGroup" = some (some (.ref Q3))) (gX3 : PySem.W.excIn K Q3 [.type "ValueError", .type "Exception", .type "BaseException", .type "object"] "ValueError.__new__" = true) (gK3 : PySem.W.keepIn K (.ref Q3) = true)
    (gG3 : PySem.W.findIn K (.ref Q3) "__getattribute__" = some (some (.builtin "BaseException.__getattribute__"))) (gH3 : PySem.W.findIn K (.ref Q3) "__getattr__" = some none) (gS3 : PySem.W.subIn K (.ref Q3) (.type "BaseException") = some true) (gD3 : PySem.W.hasDictIn K Q3 = true)
    (gP3 : PySem.W.findIn K (.ref Q3) "__class__" = some (some (.builtin "object.__class__"))) (gO3 : PySem.W.mroIn K Q3 (.type "object") = some true)
    (gA4 : PySem.W.nsIn K mainGlobals "NoLimits" = some (some (.ref Q4))) (gX4 : PySem.W.excIn K Q4 [.type "ValueError", .type "Exception", .type "BaseException", .type "object"] "ValueError.__new__" = true) (gK4 : PySem.W.keepIn K (.ref Q4) = true)
    (gG4 : PySem.W.findIn K (.ref Q4) "__getattribute__" = some (some (.builtin "BaseException.__getattribute__"))) (gH4 : PySem.W.findIn K (.ref Q4) "__getattr__" = some none) (gS4 : PySem.W.subIn K (.ref Q4) (.type "BaseException") = some true) (gD4 : PySem.W.hasDictIn K Q4 = true)
    (gP4 : PySem.W.findIn K (.ref Q4) "__class__" = some (some (.builtin "object.__class__"))) (gO4 : PySem.W.mroIn K Q4 (.type "object") = some true)
    (gA5 : PySem.W.nsIn K mainGlobals "NothingToUndo" = some (some (.ref Q5))) (gX5 : PySem.W.excIn K Q5 [.type "ValueError", .type "Exception", .type "BaseException", .type "object"] "ValueError.__new__" = true) (gK5 : PySem.W.keepIn K (.ref Q5) = true)
    (gG5 : PySem.W.findIn K (.ref Q5) "__getattribute__" = some (some (.builtin "BaseException.__getattribute__"))) (gH5 : PySem.W.findIn K (.ref Q5) "__getattr__" = some none) (gS5 : PySem.W.subIn K (.ref Q5) (.type "BaseException") = some true) (gD5 : PySem.W.hasDictIn K Q5 = true)
    (gP5 : PySem.W.findIn K (.ref Q5) "__class__" = some (some (.builtin "object.__class__"))) (gO5 : PySem.W.mroIn K Q5 (.type "object") = some true)
    (gA6 : PySem.W.nsIn K mainGlobals "NoOperations" = some (some (.ref Q6))) (gX6 : PySem.W.excIn K Q6 [.type "ValueError", .type "Exception", .type "BaseException", .type "object"] "ValueError.__new__" = true) (gK6 : PySem.W.keepIn K (.ref Q6) = true)
    (gG6 : PySem.W.findIn K (.ref Q6) "__getattribute__" = some (some (.builtin "BaseException.__getattribute__"))) (gH6 : PySem.W.findIn K (.ref Q6) "__getattr__" = some none) (gS6 : PySem.W.subIn K (.ref Q6) (.type "BaseException") = some true) (gD6 : PySem.W.hasDictIn K Q6 = true)
    (gP6 : PySem.W.findIn K (.ref Q6) "__class__" = some (some (.builtin "object.__class__"))) (gO6 : PySem.W.mroIn K Q6 (.type "object") = some true)
    (vA0 : PySem.W.nsIn K mainGlobals "MAX_ITEMS" = some (some (.int 6 tk0)))
    (vA1 : PySem.W.nsIn K mainGlobals "MAX_STEPS" = some (some (.int 5 tk1)))
    (vA2 : PySem.W.nsIn K mainGlobals "MAX_GROUPS" = some (some (.int 8 tk2)))
    (vA3 : PySem.W.nsIn K mainGlobals "LIMIT" = some (some (.int 1000000000000 tk3)))
    (vA4 : PySem.W.nsIn K mainGlobals "MAX_GAIN" = some (some (.int 1000000 tk4)))
    (vA5 : PySem.W.nsIn K mainGlobals "LISTED" = some (some (.int 1000 tk5)))
    (vA6 : PySem.W.nsIn K mainGlobals "MAX_OPERATIONS" = some (some (.int 60 tk6)))
    (vA7 : PySem.W.nsIn K mainGlobals "MAX_BATCH" = some (some (.int 20 tk7)))
    (vA8 : PySem.W.nsIn K mainGlobals "LOG_SIZE" = some (some (.int 100 tk8)))
    (vE : PySem.W.nsIn K mainGlobals "ValueError" = some none)
    (kt : kitAll K [C0, C1, Q0, C2, C3, Q1, C4, Q2, Q3, C5, Q4, C6, Q5, C7, Q6, C8, C9, C10] = true) (kc : kitTo K [C0, C1, Q0, C2, C3, Q1, C4, Q2, Q3, C5, Q4, C6, Q5, C7, Q6, C8, C9, C10] (.ref P1) = true) (kv : kitTo K [C0, C1, Q0, C2, C3, Q1, C4, Q2, Q3, C5, Q4, C6, Q5, C7, Q6, C8, C9, C10] (.type "ValueError") = true)
    : ∃ fd : FuncData, (∀ (s : Shared) (v : Value), BindsTo s fd ⟨[v], []⟩ [("_law_script", v)]) ∧ ∀ base : Heap, K.In base → base.Ns mainGlobals mg → FnG P w K mg base CX0 5 fa fd p_law (sp_law K) := by
  have e := hfa.symm.trans (PySem.W.mg_of X G a4)
  cases e
  have F0 := fun_mk (st := s_q_deck) l0 c0 k0
  have b0 := F0.binds (ps := p_q_deck) fun _ _ _ _ _ _ us hl => match us, hl with | [_], _ => rfl
  have F1 := fun_mk (st := s_q_next) l1 c1 k1
  have b1 := F1.binds (ps := p_q_next) fun _ _ _ _ _ _ us hl => match us, hl with | [_, _], _ => rfl
  have F2 := fun_mk (st := s_q_odd) l2 c2 k2
  have b2 := F2.binds (ps := p_q_odd) fun _ _ _ _ _ _ us hl => match us, hl with | [_], _ => rfl
  have F3 := fun_mk (st := s_q_kinds) l3 c3 k3
  have b3 := F3.binds (ps := p_q_kinds) fun _ _ _ _ _ _ us hl => match us, hl with | [_], _ => rfl
  have F4 := fun_mk (st := s_law) l4 c4 k4
  have b4 := F4.binds (ps := p_law) fun _ _ _ _ _ _ us hl => match us, hl with | [_], _ => rfl
  let T : Txt K mg := {
    a_q_deck := f0, d_q_deck := _, F_q_deck := F0, b_q_deck := b0, g_q_deck := PySem.W.mg_of X G a0,
    a_q_next := f1, d_q_next := _, F_q_next := F1, b_q_next := b1, g_q_next := PySem.W.mg_of X G a1,
    a_q_odd := f2, d_q_odd := _, F_q_odd := F2, b_q_odd := b2, g_q_odd := PySem.W.mg_of X G a2,
    a_q_kinds := f3, d_q_kinds := _, F_q_kinds := F3, b_q_kinds := b3, g_q_kinds := PySem.W.mg_of X G a3,
    a_law := fa, d_law := _, F_law := F4, b_law := b4, g_law := PySem.W.mg_of X G a4,
    m_enumerate := PySem.W.mg_none_of X G z0, m_abs := PySem.W.mg_none_of X G z1, m_isinstance := PySem.W.mg_none_of X G z2, m_repr := PySem.W.mg_none_of X G z3, m_len := PySem.W.mg_none_of X G z4, m_range := PySem.W.mg_none_of X G z5 }
  have FI0 := fun_mk (st := (sI 2)) eM0 eC0 eJ0
  have bI0 := FI0.binds (ps := ["self", "item"]) fun _ _ _ _ _ _ us hl => match us, hl with | [_, _], _ => rfl
  let Y0 : ErrC K mg "NoItem" "NoItem.__init__" "item" (sI 2) := { C := C0, fI := I0, fd := _, g := PySem.W.mg_of X G eA0, ox := ⟨⟨nm0, q0, N0, bs0, bm0, sn0, sb0, ab0, co0, dd0, u0, v0, w0, x0, y0, eL0, eR0⟩, eS0, eX0, eT0, eK0⟩, iC := eI0, tI := eY0, F := FI0, b := bI0, no := eN0, xf := ⟨eG0, eH0, eX0, eD0⟩, ec := ⟨eG0, eH0, eX0, eD0, eP0, sp1, sp2, eO0⟩ }
  have FI1 := fun_mk (st := (sI 3)) eM1 eC1 eJ1
  have bI1 := FI1.binds (ps := ["self", "units"]) fun _ _ _ _ _ _ us hl => match us, hl with | [_, _], _ => rfl
  let Y1 : ErrC K mg "NoUnits" "NoUnits.__init__" "units" (sI 3) := { C := C1, fI := I1, fd := _, g := PySem.W.mg_of X G eA1, ox := ⟨⟨nm1, q1, N1, bs1, bm1, sn1, sb1, ab1, co1, dd1, u1, v1, w1, x1, y1, eL1, eR1⟩, eS1, eX1, eT1, eK1⟩, iC := eI1, tI := eY1, F := FI1, b := bI1, no := eN1, xf := ⟨eG1, eH1, eX1, eD1⟩, ec := ⟨eG1, eH1, eX1, eD1, eP1, sp1, sp2, eO1⟩ }
  have FI2 := fun_mk (st := (sI 5)) eM2 eC2 eJ2
  have bI2 := FI2.binds (ps := ["self", "contradiction"]) fun _ _ _ _ _ _ us hl => match us, hl with | [_, _], _ => rfl
  let Y2 : ErrC K mg "NoFit" "NoFit.__init__" "contradiction" (sI 5) := { C := C2, fI := I2, fd := _, g := PySem.W.mg_of X G eA2, ox := ⟨⟨nm2, q2, N2, bs2, bm2, sn2, sb2, ab2, co2, dd2, u2, v2, w2, x2, y2, eL2, eR2⟩, eS2, eX2, eT2, eK2⟩, iC := eI2, tI := eY2, F := FI2, b := bI2, no := eN2, xf := ⟨eG2, eH2, eX2, eD2⟩, ec := ⟨eG2, eH2, eX2, eD2, eP2, sp1, sp2, eO2⟩ }
  have FI3 := fun_mk (st := (sI 6)) eM3 eC3 eJ3
  have bI3 := FI3.binds (ps := ["self", "total"]) fun _ _ _ _ _ _ us hl => match us, hl with | [_, _], _ => rfl
  let Y3 : ErrC K mg "NoTotal" "NoTotal.__init__" "total" (sI 6) := { C := C3, fI := I3, fd := _, g := PySem.W.mg_of X G eA3, ox := ⟨⟨nm3, q3, N3, bs3, bm3, sn3, sb3, ab3, co3, dd3, u3, v3, w3, x3, y3, eL3, eR3⟩, eS3, eX3, eT3, eK3⟩, iC := eI3, tI := eY3, F := FI3, b := bI3, no := eN3, xf := ⟨eG3, eH3, eX3, eD3⟩, ec := ⟨eG3, eH3, eX3, eD3, eP3, sp1, sp2, eO3⟩ }
  have FI4 := fun_mk (st := (sI 8)) eM4 eC4 eJ4
  have bI4 := FI4.binds (ps := ["self", "limit"]) fun _ _ _ _ _ _ us hl => match us, hl with | [_, _], _ => rfl
  let Y4 : ErrC K mg "TooMany" "TooMany.__init__" "limit" (sI 8) := { C := C4, fI := I4, fd := _, g := PySem.W.mg_of X G eA4, ox := ⟨⟨nm4, q4, N4, bs4, bm4, sn4, sb4, ab4, co4, dd4, u4, v4, w4, x4, y4, eL4, eR4⟩, eS4, eX4, eT4, eK4⟩, iC := eI4, tI := eY4, F := FI4, b := bI4, no := eN4, xf := ⟨eG4, eH4, eX4, eD4⟩, ec := ⟨eG4, eH4, eX4, eD4, eP4, sp1, sp2, eO4⟩ }
  have FI5 := fun_mk (st := (sI 11)) eM5 eC5 eJ5
  have bI5 := FI5.binds (ps := ["self", "number"]) fun _ _ _ _ _ _ us hl => match us, hl with | [_, _], _ => rfl
  let Y5 : ErrC K mg "NoNumber" "NoNumber.__init__" "number" (sI 11) := { C := C5, fI := I5, fd := _, g := PySem.W.mg_of X G eA5, ox := ⟨⟨nm5, q5, N5, bs5, bm5, sn5, sb5, ab5, co5, dd5, u5, v5, w5, x5, y5, eL5, eR5⟩, eS5, eX5, eT5, eK5⟩, iC := eI5, tI := eY5, F := FI5, b := bI5, no := eN5, xf := ⟨eG5, eH5, eX5, eD5⟩, ec := ⟨eG5, eH5, eX5, eD5, eP5, sp1, sp2, eO5⟩ }
  have FI6 := fun_mk (st := (sI 13)) eM6 eC6 eJ6
  have bI6 := FI6.binds (ps := ["self", "error"]) fun _ _ _ _ _ _ us hl => match us, hl with | [_, _], _ => rfl
  let Y6 : ErrC K mg "BadSystem" "BadSystem.__init__" "error" (sI 13) := { C := C6, fI := I6, fd := _, g := PySem.W.mg_of X G eA6, ox := ⟨⟨nm6, q6, N6, bs6, bm6, sn6, sb6, ab6, co6, dd6, u6, v6, w6, x6, y6, eL6, eR6⟩, eS6, eX6, eT6, eK6⟩, iC := eI6, tI := eY6, F := FI6, b := bI6, no := eN6, xf := ⟨eG6, eH6, eX6, eD6⟩, ec := ⟨eG6, eH6, eX6, eD6, eP6, sp1, sp2, eO6⟩ }
  have FI7 := fun_mk (st := (sI 15)) eM7 eC7 eJ7
  have bI7 := FI7.binds (ps := ["self", "at"]) fun _ _ _ _ _ _ us hl => match us, hl with | [_, _], _ => rfl
  let Y7 : ErrC K mg "NoMoment" "NoMoment.__init__" "at" (sI 15) := { C := C7, fI := I7, fd := _, g := PySem.W.mg_of X G eA7, ox := ⟨⟨nm7, q7, N7, bs7, bm7, sn7, sb7, ab7, co7, dd7, u7, v7, w7, x7, y7, eL7, eR7⟩, eS7, eX7, eT7, eK7⟩, iC := eI7, tI := eY7, F := FI7, b := bI7, no := eN7, xf := ⟨eG7, eH7, eX7, eD7⟩, ec := ⟨eG7, eH7, eX7, eD7, eP7, sp1, sp2, eO7⟩ }
  have FI8 := fun_mk (st := (sI 17)) eM8 eC8 eJ8
  have bI8 := FI8.binds (ps := ["self", "index"]) fun _ _ _ _ _ _ us hl => match us, hl with | [_, _], _ => rfl
  let Y8 : ErrC K mg "Failed" "Failed.__init__" "index" (sI 17) := { C := C8, fI := I8, fd := _, g := PySem.W.mg_of X G eA8, ox := ⟨⟨nm8, q8, N8, bs8, bm8, sn8, sb8, ab8, co8, dd8, u8, v8, w8, x8, y8, eL8, eR8⟩, eS8, eX8, eT8, eK8⟩, iC := eI8, tI := eY8, F := FI8, b := bI8, no := eN8, xf := ⟨eG8, eH8, eX8, eD8⟩, ec := ⟨eG8, eH8, eX8, eD8, eP8, sp1, sp2, eO8⟩ }
  have FI9 := fun_mk (st := (sI 18)) eM9 eC9 eJ9
  have bI9 := FI9.binds (ps := ["self", "contradiction"]) fun _ _ _ _ _ _ us hl => match us, hl with | [_, _], _ => rfl
  let Y9 : ErrC K mg "Blocked" "Blocked.__init__" "contradiction" (sI 18) := { C := C9, fI := I9, fd := _, g := PySem.W.mg_of X G eA9, ox := ⟨⟨nm9, q9, N9, bs9, bm9, sn9, sb9, ab9, co9, dd9, u9, v9, w9, x9, y9, eL9, eR9⟩, eS9, eX9, eT9, eK9⟩, iC := eI9, tI := eY9, F := FI9, b := bI9, no := eN9, xf := ⟨eG9, eH9, eX9, eD9⟩, ec := ⟨eG9, eH9, eX9, eD9, eP9, sp1, sp2, eO9⟩ }
  have FI10 := fun_mk (st := (sI 19)) eM10 eC10 eJ10
  have bI10 := FI10.binds (ps := ["self", "line"]) fun _ _ _ _ _ _ us hl => match us, hl with | [_, _], _ => rfl
  let Y10 : ErrC K mg "BadText" "BadText.__init__" "line" (sI 19) := { C := C10, fI := I10, fd := _, g := PySem.W.mg_of X G eA10, ox := ⟨⟨nm10, q10, N10, bs10, bm10, sn10, sb10, ab10, co10, dd10, u10, v10, w10, x10, y10, eL10, eR10⟩, eS10, eX10, eT10, eK10⟩, iC := eI10, tI := eY10, F := FI10, b := bI10, no := eN10, xf := ⟨eG10, eH10, eX10, eD10⟩, ec := ⟨eG10, eH10, eX10, eD10, eP10, sp1, sp2, eO10⟩ }
  let Z0 : PlainC K mg "NoPlan" := { C := Q0, g := PySem.W.mg_of X G gA0, ex := gX0, kC := gK0, ec := ⟨gG0, gH0, gS0, gD0, gP0, sp1, sp2, gO0⟩ }
  let Z1 : PlainC K mg "NoExchange" := { C := Q1, g := PySem.W.mg_of X G gA1, ex := gX1, kC := gK1, ec := ⟨gG1, gH1, gS1, gD1, gP1, sp1, sp2, gO1⟩ }
  let Z2 : PlainC K mg "NoGains" := { C := Q2, g := PySem.W.mg_of X G gA2, ex := gX2, kC := gK2, ec := ⟨gG2, gH2, gS2, gD2, gP2, sp1, sp2, gO2⟩ }
  let Z3 : PlainC K mg "NoGroup" := { C := Q3, g := PySem.W.mg_of X G gA3, ex := gX3, kC := gK3, ec := ⟨gG3, gH3, gS3, gD3, gP3, sp1, sp2, gO3⟩ }
  let Z4 : PlainC K mg "NoLimits" := { C := Q4, g := PySem.W.mg_of X G gA4, ex := gX4, kC := gK4, ec := ⟨gG4, gH4, gS4, gD4, gP4, sp1, sp2, gO4⟩ }
  let Z5 : PlainC K mg "NothingToUndo" := { C := Q5, g := PySem.W.mg_of X G gA5, ex := gX5, kC := gK5, ec := ⟨gG5, gH5, gS5, gD5, gP5, sp1, sp2, gO5⟩ }
  let Z6 : PlainC K mg "NoOperations" := { C := Q6, g := PySem.W.mg_of X G gA6, ex := gX6, kC := gK6, ec := ⟨gG6, gH6, gS6, gD6, gP6, sp1, sp2, gO6⟩ }
  let W : XTxt K mg := { c0 := Y0, c1 := Y1, c2 := Z0, c3 := Y2, c4 := Y3, c5 := Z1, c6 := Y4, c7 := Z2, c8 := Z3, c9 := Y5, c10 := Z4, c11 := Y6, c12 := Z5, c13 := Y7, c14 := Z6, c15 := Y8, c16 := Y9, c17 := Y10 }
  let Y : YTxt K mg := { X := W, cap := P1, gCap := PySem.W.mg_of X G pA1, mVE := PySem.W.mg_none_of X G vE, kit := fun i j C D h1 h2 => kitAll_at rfl kt h1 h2, kCap := fun C h => kitTo_at kc h, kVE := fun C h => kitTo_at kv h, t0 := tk0, v0 := PySem.W.mg_of X G vA0, t1 := tk1, v1 := PySem.W.mg_of X G vA1, t2 := tk2, v2 := PySem.W.mg_of X G vA2, t3 := tk3, v3 := PySem.W.mg_of X G vA3, t4 := tk4, v4 := PySem.W.mg_of X G vA4, t5 := tk5, v5 := PySem.W.mg_of X G vA5, t6 := tk6, v6 := PySem.W.mg_of X G vA6, t7 := tk7, v7 := PySem.W.mg_of X G vA7, t8 := tk8, v8 := PySem.W.mg_of X G vA8 }
  exact ⟨_, fun s v => .of_eq rfl, fun base _ _ => ok_law T Y⟩
end My
open PySem PySem.W PyProof.Rows
set_option maxHeartbeats 0 in
theorem PySem.Challenge.cw_groupcaps_k01_limits_and_exceptions_holds : PySem.Challenge.rw_groupcaps_k01_limits_and_exceptions.Holds := by
  w_on; o_law; k_head; (case hw => w_witness2)
  k_fill
  refine My.walkG (l := PySem.Challenge.rw_groupcaps_k01_limits_and_exceptions) (n := 63) (k := 5) (x := "_law_script") (CX := fun _ => L2.CX0) (sp := fun w => My.sp_law _) rfl (by decide) rfl ⟨rfl, by decide, by decide⟩ (fun w h Y => PySem.W.kIn_of Y) ?F (fun _ _ a ns hl hS => ⟨a, ns, rfl, hS, hl, fun _ => rfl⟩) (fun _ _ _ _ _ h => h)
  case F =>
    intro w mg fa h KX G hmg
    refine' My.all_mk KX G hmg ?a0 ?l0 ?c0 ?k0 ?a1 ?l1 ?c1 ?k1 ?a2 ?l2 ?c2 ?k2 ?a3 ?l3 ?c3 ?k3 ?a4 ?l4 ?c4 ?k4 ?z0 ?z1 ?z2 ?z3 ?z4 ?z5 ?eA0 ?eL0 ?eR0 ?eS0 ?eX0 ?eT0 ?eK0 ?eI0 ?eY0 ?eM0 ?eC0 ?eJ0 ?eN0 ?eG0 ?eH0 ?eD0 ?eP0 ?eO0 ?eA1 ?eL1 ?eR1 ?eS1 ?eX1 ?eT1 ?eK1 ?eI1 ?eY1 ?eM1 ?eC1 ?eJ1 ?eN1 ?eG1 ?eH1 ?eD1 ?eP1 ?eO1 ?eA2 ?eL2 ?eR2 ?eS2 ?eX2 ?eT2 ?eK2 ?eI2 ?eY2 ?eM2 ?eC2 ?eJ2 ?eN2 ?eG2 ?eH2 ?eD2 ?eP2 ?eO2 ?eA3 ?eL3 ?eR3 ?eS3 ?eX3 ?eT3 ?eK3 ?eI3 ?eY3 ?eM3 ?eC3 ?eJ3 ?eN3 ?eG3 ?eH3 ?eD3 ?eP3 ?eO3 ?eA4 ?eL4 ?eR4 ?eS4 ?eX4 ?eT4 ?eK4 ?eI4 ?eY4 ?eM4 ?eC4 ?eJ4 ?eN4 ?eG4 ?eH4 ?eD4 ?eP4 ?eO4 ?eA5 ?eL5 ?eR5 ?eS5 ?eX5 ?eT5 ?eK5 ?eI5 ?eY5 ?eM5 ?eC5 ?eJ5 ?eN5 ?eG5 ?eH5 ?eD5 ?eP5 ?eO5 ?eA6 ?eL6 ?eR6 ?eS6 ?eX6 ?eT6 ?eK6 ?eI6 ?eY6 ?eM6 ?eC6 ?eJ6 ?eN6 ?eG6 ?eH6 ?eD6 ?eP6 ?eO6 ?eA7 ?eL7 ?eR7 ?eS7 ?eX7 ?eT7 ?eK7 ?eI7 ?eY7 ?eM7 ?eC7 ?eJ7 ?eN7 ?eG7 ?eH7 ?eD7 ?eP7 ?eO7 ?eA8 ?eL8 ?eR8 ?eS8 ?eX8 ?eT8 ?eK8 ?eI8 ?eY8 ?eM8 ?eC8 ?eJ8 ?eN8 ?eG8 ?eH8 ?eD8 ?eP8 ?eO8 ?eA9 ?eL9 ?eR9 ?eS9 ?eX9 ?eT9 ?eK9 ?eI9 ?eY9 ?eM9 ?eC9 ?eJ9 ?eN9 ?eG9 ?eH9 ?eD9 ?eP9 ?eO9 ?eA10 ?eL10 ?eR10 ?eS10 ?eX10 ?eT10 ?eK10 ?eI10 ?eY10 ?eM10 ?eC10 ?eJ10 ?eN10 ?eG10 ?eH10 ?eD10 ?eP10 ?eO10 ?sp1 ?sp2 ?pA1 ?gA0 ?gX0 ?gK0 ?gG0 ?gH0 ?gS0 ?gD0 ?gP0 ?gO0 ?gA1 ?gX1 ?gK1 ?gG1 ?gH1 ?gS1 ?gD1 ?gP1 ?gO1 ?gA2 ?gX2 ?gK2 ?gG2 ?gH2 ?gS2 ?gD2 ?gP2 ?gO2 ?gA3 ?gX3 ?gK3 ?gG3 ?gH3 ?gS3 ?gD3 ?gP3 ?gO3 ?gA4 ?gX4 ?gK4 ?gG4 ?gH4 ?gS4 ?gD4 ?gP4 ?gO4 ?gA5 ?gX5 ?gK5 ?gG5 ?gH5 ?gS5 ?gD5 ?gP5 ?gO5 ?gA6 ?gX6 ?gK6 ?gG6 ?gH6 ?gS6 ?gD6 ?gP6 ?gO6 ?vA0 ?vA1 ?vA2 ?vA3 ?vA4 ?vA5 ?vA6 ?vA7 ?vA8 ?vE ?kt ?kc ?kv
    (case a0 => k_is); (case l0 => k_is); (case c0 => k_is); (case k0 => k_is); (case a1 => k_is); (case l1 => k_is); (case c1 => k_is); (case k1 => k_is); (case a2 => k_is); (case l2 => k_is); (case c2 => k_is); (case k2 => k_is); (case a3 => k_is); (case l3 => k_is); (case c3 => k_is); (case k3 => k_is); (case a4 => k_is); (case l4 => k_is); (case c4 => k_is); (case k4 => k_is); (case z0 => k_is); (case z1 => k_is); (case z2 => k_is); (case z3 => k_is); (case z4 => k_is); (case z5 => k_is); (case eA0 => k_is); (case eL0 => k_is); (case eR0 => decide +kernel); (case eS0 => k_is); (case eX0 => k_is); (case eT0 => k_is); (case eK0 => k_is); (case eI0 => k_is); (case eY0 => k_is); (case eM0 => k_is); (case eC0 => k_is); (case eJ0 => k_is); (case eN0 => k_is); (case eG0 => k_is); (case eH0 => k_is); (case eD0 => k_is); (case eP0 => k_is); (case eO0 => k_is); (case eA1 => k_is); (case eL1 => k_is); (case eR1 => decide +kernel); (case eS1 => k_is); (case eX1 => k_is); (case eT1 => k_is); (case eK1 => k_is); (case eI1 => k_is); (case eY1 => k_is); (case eM1 => k_is); (case eC1 => k_is); (case eJ1 => k_is); (case eN1 => k_is); (case eG1 => k_is); (case eH1 => k_is); (case eD1 => k_is); (case eP1 => k_is); (case eO1 => k_is); (case eA2 => k_is); (case eL2 => k_is); (case eR2 => decide +kernel); (case eS2 => k_is); (case eX2 => k_is); (case eT2 => k_is); (case eK2 => k_is); (case eI2 => k_is); (case eY2 => k_is); (case eM2 => k_is); (case eC2 => k_is); (case eJ2 => k_is); (case eN2 => k_is); (case eG2 => k_is); (case eH2 => k_is); (case eD2 => k_is); (case eP2 => k_is); (case eO2 => k_is); (case eA3 => k_is); (case eL3 => k_is); (case eR3 => decide +kernel); (case eS3 => k_is); (case eX3 => k_is); (case eT3 => k_is); (case eK3 => k_is); (case eI3 => k_is); (case eY3 => k_is); (case eM3 => k_is); (case eC3 => k_is); (case eJ3 => k_is); (case eN3 => k_is); (case eG3 => k_is); (case eH3 => k_is); (case eD3 => k_is); (case eP3 => k_is); (case eO3 => k_is); (case eA4 => k_is); (case eL4 => k_is); (case eR4 => decide +kernel); (case eS4 => k_is); (case eX4 => k_is); (case eT4 => k_is); (case eK4 => k_is); (case eI4 => k_is); (case eY4 => k_is); (case eM4 => k_is); (case eC4 => k_is); (case eJ4 => k_is); (case eN4 => k_is); (case eG4 => k_is); (case eH4 => k_is); (case eD4 => k_is); (case eP4 => k_is); (case eO4 => k_is); (case eA5 => k_is); (case eL5 => k_is); (case eR5 => decide +kernel); (case eS5 => k_is); (case eX5 => k_is); (case eT5 => k_is); (case eK5 => k_is); (case eI5 => k_is); (case eY5 => k_is); (case eM5 => k_is); (case eC5 => k_is); (case eJ5 => k_is); (case eN5 => k_is); (case eG5 => k_is); (case eH5 => k_is); (case eD5 => k_is); (case eP5 => k_is); (case eO5 => k_is); (case eA6 => k_is); (case eL6 => k_is); (case eR6 => decide +kernel); (case eS6 => k_is); (case eX6 => k_is); (case eT6 => k_is); (case eK6 => k_is); (case eI6 => k_is); (case eY6 => k_is); (case eM6 => k_is); (case eC6 => k_is); (case eJ6 => k_is); (case eN6 => k_is); (case eG6 => k_is); (case eH6 => k_is); (case eD6 => k_is); (case eP6 => k_is); (case eO6 => k_is); (case eA7 => k_is); (case eL7 => k_is); (case eR7 => decide +kernel); (case eS7 => k_is); (case eX7 => k_is); (case eT7 => k_is); (case eK7 => k_is); (case eI7 => k_is); (case eY7 => k_is); (case eM7 => k_is); (case eC7 => k_is); (case eJ7 => k_is); (case eN7 => k_is); (case eG7 => k_is); (case eH7 => k_is); (case eD7 => k_is); (case eP7 => k_is); (case eO7 => k_is); (case eA8 => k_is); (case eL8 => k_is); (case eR8 => decide +kernel); (case eS8 => k_is); (case eX8 => k_is); (case eT8 => k_is); (case eK8 => k_is); (case eI8 => k_is); (case eY8 => k_is); (case eM8 => k_is); (case eC8 => k_is); (case eJ8 => k_is); (case eN8 => k_is); (case eG8 => k_is); (case eH8 => k_is); (case eD8 => k_is); (case eP8 => k_is); (case eO8 => k_is); (case eA9 => k_is); (case eL9 => k_is); (case eR9 => decide +kernel); (case eS9 => k_is); (case eX9 => k_is); (case eT9 => k_is); (case eK9 => k_is); (case eI9 => k_is); (case eY9 => k_is); (case eM9 => k_is); (case eC9 => k_is); (case eJ9 => k_is); (case eN9 => k_is); (case eG9 => k_is); (case eH9 => k_is); (case eD9 => k_is); (case eP9 => k_is); (case eO9 => k_is); (case eA10 => k_is); (case eL10 => k_is); (case eR10 => decide +kernel); (case eS10 => k_is); (case eX10 => k_is); (case eT10 => k_is); (case eK10 => k_is); (case eI10 => k_is); (case eY10 => k_is); (case eM10 => k_is); (case eC10 => k_is); (case eJ10 => k_is); (case eN10 => k_is); (case eG10 => k_is); (case eH10 => k_is); (case eD10 => k_is); (case eP10 => k_is); (case eO10 => k_is); (case sp1 => k_is); (case sp2 => k_is); (case pA1 => k_is); (case gA0 => k_is); (case gX0 => k_exc); (case gK0 => k_is); (case gG0 => k_is); (case gH0 => k_is); (case gS0 => k_is); (case gD0 => k_is); (case gP0 => k_is); (case gO0 => k_is); (case gA1 => k_is); (case gX1 => k_exc); (case gK1 => k_is); (case gG1 => k_is); (case gH1 => k_is); (case gS1 => k_is); (case gD1 => k_is); (case gP1 => k_is); (case gO1 => k_is); (case gA2 => k_is); (case gX2 => k_exc); (case gK2 => k_is); (case gG2 => k_is); (case gH2 => k_is); (case gS2 => k_is); (case gD2 => k_is); (case gP2 => k_is); (case gO2 => k_is); (case gA3 => k_is); (case gX3 => k_exc); (case gK3 => k_is); (case gG3 => k_is); (case gH3 => k_is); (case gS3 => k_is); (case gD3 => k_is); (case gP3 => k_is); (case gO3 => k_is); (case gA4 => k_is); (case gX4 => k_exc); (case gK4 => k_is); (case gG4 => k_is); (case gH4 => k_is); (case gS4 => k_is); (case gD4 => k_is); (case gP4 => k_is); (case gO4 => k_is); (case gA5 => k_is); (case gX5 => k_exc); (case gK5 => k_is); (case gG5 => k_is); (case gH5 => k_is); (case gS5 => k_is); (case gD5 => k_is); (case gP5 => k_is); (case gO5 => k_is); (case gA6 => k_is); (case gX6 => k_exc); (case gK6 => k_is); (case gG6 => k_is); (case gH6 => k_is); (case gS6 => k_is); (case gD6 => k_is); (case gP6 => k_is); (case gO6 => k_is); (case vA0 => k_is); (case vA1 => k_is); (case vA2 => k_is); (case vA3 => k_is); (case vA4 => k_is); (case vA5 => k_is); (case vA6 => k_is); (case vA7 => k_is); (case vA8 => k_is); (case vE => k_is); (case kt => first | kernel_rfl | rfl); (case kc => first | kernel_rfl | rfl); (case kv => first | kernel_rfl | rfl)


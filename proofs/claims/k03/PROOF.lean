import PyProof.Rows.All
import Wide.All
import OpenK.AllK
import Wide.FinOn
import HandS.ForMost
import HandS.ForExc
import HandS.IsInst
import HandS.Wide
import HandS.TupAny
import HandS.Style
import HandS.TryMany
import HandS.ExcIs
import HandS.ExcField
import HandS.SortInts
import KE.KExcIs
import HandS.ExcInit
import HandS.Ends
import HandS.Conv
import HandS.Evl
import PySem.Challenge.RW_groupcaps_k03_gains_of_units
set_option Elab.async false
set_option linter.all false
set_option maxRecDepth 100000
namespace My
open PySem PySem.Spec PyProof.Rows L2
def topS (i : Nat) : Stmt := PySem.Challenge.pw_groupcaps_k03_gains_of_units.main.body.getD i (.Pass ⟨0, 0, 0, 0⟩)
abbrev s_is_between : Stmt := topS 8
abbrev n_is_between : List Str := ["value", "least", "most"]
abbrev p_is_between : List Str := ["value", "least", "most"]
theorem sc_is_between : FnScope n_is_between p_is_between (defScope s_is_between) := ⟨rfl, rfl, rfl, by decide +kernel, rfl, by decide +kernel, by decide +kernel⟩
abbrev s_capacity_of_gains : Stmt := topS 9
abbrev n_capacity_of_gains : List Str := ["gains", "count", "gain"]
abbrev p_capacity_of_gains : List Str := ["gains"]
theorem sc_capacity_of_gains : FnScope n_capacity_of_gains p_capacity_of_gains (defScope s_capacity_of_gains) := ⟨rfl, rfl, rfl, by decide +kernel, rfl, by decide +kernel, by decide +kernel⟩
abbrev s_gains_of_item : Stmt := topS 10
abbrev n_gains_of_item : List Str := ["system", "item", "items"]
abbrev p_gains_of_item : List Str := ["system", "item"]
theorem sc_gains_of_item : FnScope n_gains_of_item p_gains_of_item (defScope s_gains_of_item) := ⟨rfl, rfl, rfl, by decide +kernel, rfl, by decide +kernel, by decide +kernel⟩
abbrev s_capacity_of : Stmt := topS 11
abbrev n_capacity_of : List Str := ["system", "item"]
abbrev p_capacity_of : List Str := ["system", "item"]
theorem sc_capacity_of : FnScope n_capacity_of p_capacity_of (defScope s_capacity_of) := ⟨rfl, rfl, rfl, by decide +kernel, rfl, by decide +kernel, by decide +kernel⟩
abbrev s_gain_of_first : Stmt := topS 12
abbrev n_gain_of_first : List Str := ["gains", "units", "total", "rest", "count", "gain", "given"]
abbrev p_gain_of_first : List Str := ["gains", "units"]
theorem sc_gain_of_first : FnScope n_gain_of_first p_gain_of_first (defScope s_gain_of_first) := ⟨rfl, rfl, rfl, by decide +kernel, rfl, by decide +kernel, by decide +kernel⟩
abbrev s_gain_of_units : Stmt := topS 13
abbrev n_gain_of_units : List Str := ["system", "item", "units", "gains"]
abbrev p_gain_of_units : List Str := ["system", "item", "units"]
theorem sc_gain_of_units : FnScope n_gain_of_units p_gain_of_units (defScope s_gain_of_units) := ⟨rfl, rfl, rfl, by decide +kernel, rfl, by decide +kernel, by decide +kernel⟩
abbrev s_q_deck : Stmt := topS 15
abbrev n_q_deck : List Str := ["_law_script", "_law_cells", "_law_cell"]
abbrev p_q_deck : List Str := ["_law_script"]
theorem sc_q_deck : FnScope n_q_deck p_q_deck (defScope s_q_deck) := ⟨rfl, rfl, rfl, by decide +kernel, rfl, by decide +kernel, by decide +kernel⟩
abbrev s_q_next : Stmt := topS 16
abbrev n_q_next : List Str := ["_law_deck_here", "_law_many", "_law_rest", "_law_cell", "_law_pick"]
abbrev p_q_next : List Str := ["_law_deck_here", "_law_many"]
theorem sc_q_next : FnScope n_q_next p_q_next (defScope s_q_next) := ⟨rfl, rfl, rfl, by decide +kernel, rfl, by decide +kernel, by decide +kernel⟩
abbrev s_q_whole : Stmt := topS 17
abbrev n_q_whole : List Str := ["_law_thing"]
abbrev p_q_whole : List Str := ["_law_thing"]
theorem sc_q_whole : FnScope n_q_whole p_q_whole (defScope s_q_whole) := ⟨rfl, rfl, rfl, by decide +kernel, rfl, by decide +kernel, by decide +kernel⟩
abbrev s_q_odd : Stmt := topS 18
abbrev n_q_odd : List Str := ["_law_deck_here", "_law_some"]
abbrev p_q_odd : List Str := ["_law_deck_here"]
theorem sc_q_odd : FnScope n_q_odd p_q_odd (defScope s_q_odd) := ⟨rfl, rfl, rfl, by decide +kernel, rfl, by decide +kernel, by decide +kernel⟩
abbrev s_q_great : Stmt := topS 19
abbrev n_q_great : List Str := ["_law_deck_here"]
abbrev p_q_great : List Str := ["_law_deck_here"]
theorem sc_q_great : FnScope n_q_great p_q_great (defScope s_q_great) := ⟨rfl, rfl, rfl, by decide +kernel, rfl, by decide +kernel, by decide +kernel⟩
abbrev s_q_gains : Stmt := topS 20
abbrev n_q_gains : List Str := ["_law_deck_here", "_law_great_here", "_law_most", "_law_gain", "_law_found", "_law_k"]
abbrev p_q_gains : List Str := ["_law_deck_here", "_law_great_here", "_law_most"]
theorem sc_q_gains : FnScope n_q_gains p_q_gains (defScope s_q_gains) := ⟨rfl, rfl, rfl, by decide +kernel, rfl, by decide +kernel, by decide +kernel⟩
abbrev s_q_capacity : Stmt := topS 21
abbrev n_q_capacity : List Str := ["_law_gains_here", "_law_count", "_law_gain"]
abbrev p_q_capacity : List Str := ["_law_gains_here"]
theorem sc_q_capacity : FnScope n_q_capacity p_q_capacity (defScope s_q_capacity) := ⟨rfl, rfl, rfl, by decide +kernel, rfl, by decide +kernel, by decide +kernel⟩
abbrev s_q_family : Stmt := topS 22
abbrev n_q_family : List Str := ["_law_deck_here", "_law_count", "_law_blocks", "_law_found", "_law_block", "_law_one", "_law_other", "_law_k"]
abbrev p_q_family : List Str := ["_law_deck_here", "_law_count"]
theorem sc_q_family : FnScope n_q_family p_q_family (defScope s_q_family) := ⟨rfl, rfl, rfl, by decide +kernel, rfl, by decide +kernel, by decide +kernel⟩
abbrev s_q_limits : Stmt := topS 23
abbrev n_q_limits : List Str := ["_law_deck_here", "_law_total", "_law_most", "_law_way", "_law_low", "_law_high"]
abbrev p_q_limits : List Str := ["_law_deck_here", "_law_total", "_law_most"]
theorem sc_q_limits : FnScope n_q_limits p_q_limits (defScope s_q_limits) := ⟨rfl, rfl, rfl, by decide +kernel, rfl, by decide +kernel, by decide +kernel⟩
abbrev s_q_system : Stmt := topS 24
abbrev n_q_system : List Str := ["_law_deck_here", "_law_great_here", "_law_items", "_law_steps", "_law_rows", "_law_plan", "_law_groups", "_law_members", "_law_most", "_law_low", "_law_high", "_law_k", "_law_gains_here"]
abbrev p_q_system : List Str := ["_law_deck_here", "_law_great_here", "_law_items", "_law_steps"]
theorem sc_q_system : FnScope n_q_system p_q_system (defScope s_q_system) := ⟨rfl, rfl, rfl, by decide +kernel, rfl, by decide +kernel, by decide +kernel⟩
abbrev s_q_worth : Stmt := topS 25
abbrev n_q_worth : List Str := ["_law_gains_here", "_law_units", "_law_total", "_law_begin", "_law_count", "_law_gain"]
abbrev p_q_worth : List Str := ["_law_gains_here", "_law_units"]
theorem sc_q_worth : FnScope n_q_worth p_q_worth (defScope s_q_worth) := ⟨rfl, rfl, rfl, by decide +kernel, rfl, by decide +kernel, by decide +kernel⟩
abbrev s_q_told : Stmt := topS 26
abbrev n_q_told : List Str := ["_law_door", "_law_system_here", "_law_item", "_law_units", "_law_found", "error"]
abbrev p_q_told : List Str := ["_law_door", "_law_system_here", "_law_item", "_law_units"]
theorem sc_q_told : FnScope n_q_told p_q_told (defScope s_q_told) := ⟨rfl, rfl, rfl, by decide +kernel, rfl, by decide +kernel, by decide +kernel⟩
abbrev s_q_due : Stmt := topS 27
abbrev n_q_due : List Str := ["_law_system_here", "_law_item", "_law_units", "_law_most"]
abbrev p_q_due : List Str := ["_law_system_here", "_law_item", "_law_units"]
theorem sc_q_due : FnScope n_q_due p_q_due (defScope s_q_due) := ⟨rfl, rfl, rfl, by decide +kernel, rfl, by decide +kernel, by decide +kernel⟩
abbrev s_law : Stmt := topS 28
abbrev n_law : List Str := ["_law_script", "_law_deck_here", "_law_turn", "_law_system_here", "_law_count", "_law_kept", "_law_item", "_law_gains_here", "_law_most", "_law_begin", "_law_some", "_law_step", "_law_units", "_law_found", "_law_door"]
abbrev p_law : List Str := ["_law_script"]
theorem sc_law : FnScope n_law p_law (defScope s_law) := ⟨rfl, rfl, rfl, by decide +kernel, rfl, by decide +kernel, by decide +kernel⟩
/-- what the top leaves -/
structure Txt (K : PySem.W.Frag) (mg : Str → Option Value) where
  a_is_between : Addr
  d_is_between : FuncData
  F_is_between : Fun K "is_between" "is_between" s_is_between a_is_between d_is_between
  b_is_between : Binds K d_is_between p_is_between []
  g_is_between : mg "is_between" = some (.ref a_is_between)
  a_capacity_of_gains : Addr
  d_capacity_of_gains : FuncData
  F_capacity_of_gains : Fun K "capacity_of_gains" "capacity_of_gains" s_capacity_of_gains a_capacity_of_gains d_capacity_of_gains
  b_capacity_of_gains : Binds K d_capacity_of_gains p_capacity_of_gains []
  g_capacity_of_gains : mg "capacity_of_gains" = some (.ref a_capacity_of_gains)
  a_gains_of_item : Addr
  d_gains_of_item : FuncData
  F_gains_of_item : Fun K "gains_of_item" "gains_of_item" s_gains_of_item a_gains_of_item d_gains_of_item
  b_gains_of_item : Binds K d_gains_of_item p_gains_of_item []
  g_gains_of_item : mg "gains_of_item" = some (.ref a_gains_of_item)
  a_capacity_of : Addr
  d_capacity_of : FuncData
  F_capacity_of : Fun K "capacity_of" "capacity_of" s_capacity_of a_capacity_of d_capacity_of
  b_capacity_of : Binds K d_capacity_of p_capacity_of []
  g_capacity_of : mg "capacity_of" = some (.ref a_capacity_of)
  a_gain_of_first : Addr
  d_gain_of_first : FuncData
  F_gain_of_first : Fun K "gain_of_first" "gain_of_first" s_gain_of_first a_gain_of_first d_gain_of_first
  b_gain_of_first : Binds K d_gain_of_first p_gain_of_first []
  g_gain_of_first : mg "gain_of_first" = some (.ref a_gain_of_first)
  a_gain_of_units : Addr
  d_gain_of_units : FuncData
  F_gain_of_units : Fun K "gain_of_units" "gain_of_units" s_gain_of_units a_gain_of_units d_gain_of_units
  b_gain_of_units : Binds K d_gain_of_units p_gain_of_units []
  g_gain_of_units : mg "gain_of_units" = some (.ref a_gain_of_units)
  a_q_deck : Addr
  d_q_deck : FuncData
  F_q_deck : Fun K "_law_deck" "_law_deck" s_q_deck a_q_deck d_q_deck
  b_q_deck : Binds K d_q_deck p_q_deck []
  g_q_deck : mg "_law_deck" = some (.ref a_q_deck)
  a_q_next : Addr
  d_q_next : FuncData
  F_q_next : Fun K "_law_next" "_law_next" s_q_next a_q_next d_q_next
  b_q_next : Binds K d_q_next p_q_next []
  g_q_next : mg "_law_next" = some (.ref a_q_next)
  a_q_whole : Addr
  d_q_whole : FuncData
  F_q_whole : Fun K "_law_whole" "_law_whole" s_q_whole a_q_whole d_q_whole
  b_q_whole : Binds K d_q_whole p_q_whole []
  g_q_whole : mg "_law_whole" = some (.ref a_q_whole)
  a_q_odd : Addr
  d_q_odd : FuncData
  F_q_odd : Fun K "_law_odd" "_law_odd" s_q_odd a_q_odd d_q_odd
  b_q_odd : Binds K d_q_odd p_q_odd []
  g_q_odd : mg "_law_odd" = some (.ref a_q_odd)
  a_q_great : Addr
  d_q_great : FuncData
  F_q_great : Fun K "_law_great" "_law_great" s_q_great a_q_great d_q_great
  b_q_great : Binds K d_q_great p_q_great []
  g_q_great : mg "_law_great" = some (.ref a_q_great)
  a_q_gains : Addr
  d_q_gains : FuncData
  F_q_gains : Fun K "_law_gains" "_law_gains" s_q_gains a_q_gains d_q_gains
  b_q_gains : Binds K d_q_gains p_q_gains []
  g_q_gains : mg "_law_gains" = some (.ref a_q_gains)
  a_q_capacity : Addr
  d_q_capacity : FuncData
  F_q_capacity : Fun K "_law_capacity" "_law_capacity" s_q_capacity a_q_capacity d_q_capacity
  b_q_capacity : Binds K d_q_capacity p_q_capacity []
  g_q_capacity : mg "_law_capacity" = some (.ref a_q_capacity)
  a_q_family : Addr
  d_q_family : FuncData
  F_q_family : Fun K "_law_family" "_law_family" s_q_family a_q_family d_q_family
  b_q_family : Binds K d_q_family p_q_family []
  g_q_family : mg "_law_family" = some (.ref a_q_family)
  a_q_limits : Addr
  d_q_limits : FuncData
  F_q_limits : Fun K "_law_limits" "_law_limits" s_q_limits a_q_limits d_q_limits
  b_q_limits : Binds K d_q_limits p_q_limits []
  g_q_limits : mg "_law_limits" = some (.ref a_q_limits)
  a_q_system : Addr
  d_q_system : FuncData
  F_q_system : Fun K "_law_system" "_law_system" s_q_system a_q_system d_q_system
  b_q_system : Binds K d_q_system p_q_system []
  g_q_system : mg "_law_system" = some (.ref a_q_system)
  a_q_worth : Addr
  d_q_worth : FuncData
  F_q_worth : Fun K "_law_worth" "_law_worth" s_q_worth a_q_worth d_q_worth
  b_q_worth : Binds K d_q_worth p_q_worth []
  g_q_worth : mg "_law_worth" = some (.ref a_q_worth)
  a_q_told : Addr
  d_q_told : FuncData
  F_q_told : Fun K "_law_told" "_law_told" s_q_told a_q_told d_q_told
  b_q_told : Binds K d_q_told p_q_told []
  g_q_told : mg "_law_told" = some (.ref a_q_told)
  a_q_due : Addr
  d_q_due : FuncData
  F_q_due : Fun K "_law_due" "_law_due" s_q_due a_q_due d_q_due
  b_q_due : Binds K d_q_due p_q_due []
  g_q_due : mg "_law_due" = some (.ref a_q_due)
  a_law : Addr
  d_law : FuncData
  F_law : Fun K "law" "law" s_law a_law d_law
  b_law : Binds K d_law p_law []
  g_law : mg "law" = some (.ref a_law)
  m_sum : mg "sum" = none
  m_range : mg "range" = none
  m_tuple : mg "tuple" = none
  m_list : mg "list" = none
  m_isinstance : mg "isinstance" = none
  m_bool : mg "bool" = none
  m_min : mg "min" = none
  m_abs : mg "abs" = none
  m_int : mg "int" = none
  m_max : mg "max" = none
  m_len : mg "len" = none
  m_repr : mg "repr" = none
  m_sorted : mg "sorted" = none
end My

namespace My
open PySem PySem.Spec PyProof.Rows L2
/-! ### data -/
theorem dp_ints {K : PySem.W.Frag} {H : Hp} : ∀ ns : List Int, DpAll K H (ns.map V.int) (ns.map PyData.int)
  | [] => .nil
  | n :: r => .cons (.int n) (dp_ints r)
theorem lay_ints : ∀ ns : List Int, PyData.canLayAll0 (ns.map PyData.int) = true
  | [] => by simp [PyData.canLayAll0]
  | n :: r => by simp [PyData.canLayAll0, PyData.canLay0, lay_ints r]
theorem deep_ints : ∀ ns : List Int, PyData.depthAll (ns.map PyData.int) = 0
  | [] => by simp [PyData.depthAll]
  | n :: r => by simp [PyData.depthAll, PyData.depth, deep_ints r]
theorem shaped_ints (ns : List Int) : SeqAt.shaped (.list (ns.map PyData.int)) = true := by
  have h1 := lay_ints ns
  have h2 := deep_ints ns
  unfold SeqAt.shaped
  simp [PyData.canLay0, PyData.depth, h1, h2]
theorem eqv_nil (ns : List Int) : PyData.eqv (.list (ns.map PyData.int)) (.list []) = ns.isEmpty := by
  cases ns with
  | nil => simp [PyData.eqv, PyData.eqvAll]
  | cons n r => simp [PyData.eqv, PyData.eqvAll]
theorem upd_keep {H : Hp} {p : Addr} {o : HO} (h : H p = none) {b : Addr} {x : HO} (e : H b = some x) : upd H p o b = some x := by
  rw [upd_ne (ne_of_none e h)]
  exact e
/-! ### the deck -/
structure Dk where
  a : Addr
  l1 : Addr
  l2 : Addr
structure Dk.At (D : Dk) (H : Hp) (c : Nat) (big cells : List Int) : Prop where
  top : H D.a = some (.lst [.ref D.l1, .ref D.l2, .int c])
  one : H D.l1 = some (.lst (big.map V.int))
  two : H D.l2 = some (.lst (cells.map V.int))
  pos : 0 < cells.length
  ne1 : D.a ≠ D.l1
  ne2 : D.a ≠ D.l2
  ne3 : D.l2 ≠ D.l1
/-- the deck stands, at most c draws are mixed ones -/
def Dk.On (D : Dk) (H : Hp) (c : Nat) : Prop := ∃ c' big cells, c' ≤ c ∧ D.At H c' big cells
theorem Dk.On.mono {D : Dk} {H : Hp} {c c' : Nat} (h : D.On H c) (l : c ≤ c') : D.On H c' := by
  obtain ⟨k, b, s, h1, h2⟩ := h
  exact ⟨k, b, s, by omega, h2⟩
/-- all stands but what the deck may change -/
def Keep (D : Dk) (H H' : Hp) : Prop := ∀ b x, H b = some x → b ≠ D.a → b ≠ D.l1 → H' b = some x
theorem Keep.rfl' {D : Dk} {H : Hp} : Keep D H H := fun _ _ e _ _ => e
theorem Keep.trans {D : Dk} {H H1 H2 : Hp} (h : Keep D H H1) (k : Keep D H1 H2) : Keep D H H2 := fun b x e n1 n2 => k b x (h b x e n1 n2) n1 n2
theorem Keep.new {D : Dk} {H : Hp} {p : Addr} {o : HO} (h : H p = none) : Keep D H (upd H p o) := fun _ _ e _ _ => upd_keep h e
theorem Keep.set {D : Dk} {H H' : Hp} {p : Addr} {o : HO} (k : Keep D H H') (h : H p = none) : Keep D H (upd H' p o) := fun b x e n1 n2 => by
  rw [upd_ne (ne_of_none e h)]
  exact k b x e n1 n2
theorem Dk.At.new {D : Dk} {H : Hp} {c : Nat} {big cells : List Int} {p : Addr} {o : HO} (d : D.At H c big cells) (h : H p = none) : D.At (upd H p o) c big cells :=
  ⟨upd_keep h d.top, upd_keep h d.one, upd_keep h d.two, d.pos, d.ne1, d.ne2, d.ne3⟩
theorem Dk.On.new {D : Dk} {H : Hp} {c : Nat} {p : Addr} {o : HO} (d : D.On H c) (h : H p = none) : D.On (upd H p o) c := by
  obtain ⟨k, b, s, h1, h2⟩ := d
  exact ⟨k, b, s, h1, h2.new h⟩
/-- an object that is not the deck's is put anew -/
theorem Dk.On.put {D : Dk} {H : Hp} {c : Nat} {p : Addr} {o : HO} (d : D.On H c) (h1 : p ≠ D.a) (h2 : p ≠ D.l1) (h3 : p ≠ D.l2) : D.On (upd H p o) c := by
  obtain ⟨k, b, s, h, d⟩ := d
  exact ⟨k, b, s, h, by rw [upd_ne h1.symm]; exact d.top, by rw [upd_ne h2.symm]; exact d.one, by rw [upd_ne h3.symm]; exact d.two, d.pos, d.ne1, d.ne2, d.ne3⟩
def sp_q_next : Sp := fun vs H Q _ => ∃ (D : Dk) (c : Nat) (m : Int), vs = [.ref D.a, .int m] ∧ D.On H c ∧ c < 2 ^ 40 ∧ 0 < m ∧ m < 2 ^ 64 ∧
  ∀ H' r, Keep D H H' → D.On H' (c + 1) → 0 ≤ r → r < m → Q (.int r) H'
theorem at0 {α : Type} {x : α} {xs : List α} : atI (x :: xs) 0 = some x := atI_nat (j := 0) rfl
theorem at1 {α : Type} {x y : α} {xs : List α} : atI (x :: y :: xs) 1 = some y := atI_nat (j := 1) rfl
theorem at2 {α : Type} {x y z : α} {xs : List α} : atI (x :: y :: z :: xs) 2 = some z := atI_nat (j := 2) rfl
theorem ix0 {n : Nat} (h : 0 < n) : ixN n 0 = some 0 := by
  unfold ixN
  rw [if_pos (Int.le_refl 0), if_pos (by omega)]
  rfl
theorem ix2 {n : Nat} (h : 2 < n) : ixN n 2 = some 2 := by
  unfold ixN
  rw [if_pos (by decide), if_pos (by omega)]
  rfl
theorem seq0 {n : Nat} (h : 0 < n) : seqIndex? 0 n = some 0 := by
  have := seqIndex_of (k := 0) (n := n) (by omega) (by omega)
  simpa using this
section
variable {P : Program} {w : World} {K : PySem.W.Frag} {mg : Str → Option Value} {base : Heap}
theorem ok_q_next (T : Txt K mg) : FnOk P w K mg base CX0 1 T.a_q_next T.d_q_next p_q_next sp_q_next := by
  refine T.F_q_next.ok sc_q_next (fun vs H Q E h => ?_) (fun cdv A outer s H vs Q E hr h => ?_)
  · obtain ⟨D, c, m, rfl, _⟩ := h
    rfl
  · obtain ⟨D, c, m, rfl, hD, hc, hm, hm2, q⟩ := h
    refine ⟨_, (pss_cons (ps_while PassesOwn.never (pt_cmpR (op_neD hr.units) (pe_ix ix_list (pv 0) pe_int (fun _ _ => rfl)) (pe_lst pa_nil) (nomark _))
(pss_cons (ps_set (i := 2) sc_q_next.nd rfl (.inl rfl) (pe_ix ix_list (pe_ix ix_list (pv 0) pe_int (fun _ _ => rfl)) pe_int (fun _ _ => rfl)))
(pss_cons (ps_if (pt_cmpR op_gt (pv 2) pe_int (nomark _))
(pss_cons (ps_asg (pe_op op_fdivW (pv 2) (pv 1)) (pg_sub (pe_ix ix_list (pv 0) pe_int (fun _ _ => rfl)) pe_int set_list))
(pss_one (ps_ret (pe_op op_mod (pv 2) (pv 1)))))
pss_nil)
(pss_one (ps_expr (pe_bm PySem.F.plainAttrs_list PySem.F.slot_list_pop PySem.F.type_list_pop mt_popAt (pe_ix ix_list (pv 0) pe_int (fun _ _ => rfl)) (pa_cons pe_int pa_nil)))))))
(pss_cons (ps_asg (pe_op op_add (pe_ix ix_list (pv 0) pe_int (fun _ _ => rfl)) pe_int) (pg_sub (pv 0) pe_int set_list))
(pss_cons (ps_set (i := 3) sc_q_next.nd rfl (.inl rfl) (pe_op op_mod (pe_ix ix_list (pe_ix ix_list (pv 0) pe_int (fun _ _ => rfl)) (pe_op op_mod (pe_ix ix_list (pv 0) pe_int (fun _ _ => rfl)) (pe_callB (call_len_seq) (by rfl) T.m_len PySem.boot_len (pa_cons (pe_ix ix_list (pv 0) pe_int (fun _ _ => rfl)) pa_nil))) (fun _ _ => rfl)) pe_int))
(pss_cons (ps_set (i := 4) sc_q_next.nd rfl (.inl rfl) (pe_op op_add (pe_op op_add (pe_op op_mul (pv 3) (pe_op op_add pe_int (pe_op op_mul pe_int (pe_ix ix_list (pv 0) pe_int (fun _ _ => rfl))))) (pe_op op_mul (pe_op op_mul pe_int (pe_ix ix_list (pv 0) pe_int (fun _ _ => rfl))) (pe_ix ix_list (pv 0) pe_int (fun _ _ => rfl)))) pe_int))
(pss_cons (ps_set (i := 4) sc_q_next.nd rfl (.inl rfl) (pe_op op_mod (pv 4) pe_int))
(pss_one (ps_ret (pe_op op_mod (pe_op op_fdiv (pe_op op_mod (pe_op op_mul (pv 4) (pv 4)) pe_int) pe_int) (pv 1))))))))), ?_⟩
    obtain ⟨c0, big0, cells, hcc, dAt⟩ := hD
    refine while_by (fun σ H' => ∃ y2 big, σ = [some (.ref D.a), some (.int m), y2, none, none] ∧ D.At H' c0 big cells ∧ Keep D H H')
      (fun σ H' => match H' D.l1 with | some (.lst xs) => xs.length | _ => 0) ⟨_, big0, rfl, dAt, Keep.rfl'⟩ (fun σ H1 hP => ?_) (fun σ H Q Q' f h => ?_)
    · obtain ⟨y2, big, rfl, d, kp⟩ := hP
      refine ⟨_, rfl, D.a, _, 0, .ref D.l1, rfl, rfl, .inl (.inl d.top), at0, Nat.zero_le _, fun p np => ?_⟩
      have d1 : D.At (upd H1 p (.lst [])) c0 big cells := d.new np
      have kp1 : Keep D H (upd H1 p (.lst [])) := kp.trans (Keep.new np)
      refine ⟨.list (big.map PyData.int), .list [], .lst (.inl (.inl d1.one)) (dp_ints big), .lst (.inl (.inl upd_same)) .nil, shaped_ints big, shaped_ints [], _, rfl, ?_⟩
      rw [eqv_nil]
      cases big with
      | nil =>
        refine iteF ?_
        -- the mixed draw
        refine ⟨_, rfl, D.a, _, 2, .int c0, rfl, rfl, .inl (.inl d1.top), at2, _, _, rfl, rfl, _, rfl, D.a, _, 2, 2, rfl, rfl, d1.top, ix2 (by simp), ?_⟩
        generalize hH2 : upd (upd H1 p (.lst [])) D.a _ = H2
        have d2 : D.At H2 (c0 + 1) [] cells := by
          subst hH2
          exact ⟨by rw [upd_same]; rfl, by rw [upd_ne d.ne1.symm]; exact d1.one, by rw [upd_ne d.ne2.symm]; exact d1.two, d.pos, d.ne1, d.ne2, d.ne3⟩
        have kp2 : Keep D H H2 := by
          subst hH2
          intro b x e n1 n2
          rw [upd_ne n1]
          exact kp1 b x e n1 n2
        have top : SqL K H2 D.a [.ref D.l1, .ref D.l2, .int (c0 + 1 : Nat)] := .inl (.inl d2.top)
        have two : SqL K H2 D.l2 (cells.map V.int) := .inl (.inl d2.two)
        have hl : 0 < (cells.length : Int) := by have := d.pos; omega
        have hj0 : 0 ≤ ((c0 + 1 : Nat) : Int) % (cells.length : Int) := Int.emod_nonneg _ (by omega)
        have hj1 : ((c0 + 1 : Nat) : Int) % (cells.length : Int) < cells.length := Int.emod_lt_of_pos _ hl
        obtain ⟨j, hj⟩ : ∃ j : Nat, ((c0 + 1 : Nat) : Int) % (cells.length : Int) = j := ⟨_, (Int.toNat_of_nonneg hj0).symm⟩
        have hjl : j < cells.length := by omega
        have gj : (cells.map V.int)[j]? = some (.int cells[j]) := by
          rw [List.getElem?_map, List.getElem?_eq_getElem hjl]
          rfl
        refine ⟨_, rfl, D.a, _, 1, .ref D.l2, rfl, rfl, top, at1, _, rfl, D.a, _, 2, .int (c0 + 1 : Nat), rfl, rfl, top, at2, _, rfl, D.a, _, 1, .ref D.l2, rfl, rfl, top, at1, D.l2, _, rfl, .inl two, _, _, rfl, rfl, by rw [List.length_map]; exact hl, ?_⟩
        refine ⟨D.l2, _, _, .int cells[j], rfl, rfl, two, by rw [List.length_map, hj]; exact atI_nat gj, _, _, rfl, rfl, (by show (0 : Int) < 2147483647; decide), ?_⟩
        have hx0 : 0 ≤ cells[j] % 2147483647 := Int.emod_nonneg _ (by decide)
        have hx1 : cells[j] % 2147483647 < 2147483647 := Int.emod_lt_of_pos _ (by decide)
        generalize cells[j] % 2147483647 = x at hx0 hx1
        refine ⟨_, rfl, _, rfl, D.a, _, 2, .int (c0 + 1 : Nat), rfl, rfl, top, at2, _, _, rfl, rfl, .inl ⟨by decide, by decide⟩, _, _, rfl, rfl, _, _, rfl, rfl, .inl ⟨by omega, by omega⟩, ?_⟩
        refine ⟨_, rfl, D.a, _, 2, .int (c0 + 1 : Nat), rfl, rfl, top, at2, _, _, rfl, rfl, .inl ⟨by decide, by decide⟩, _, rfl, D.a, _, 2, .int (c0 + 1 : Nat), rfl, rfl, top, at2, _, _, rfl, rfl, .inl ⟨by omega, by omega⟩, _, _, rfl, rfl, _, _, rfl, rfl, ?_⟩
        refine ⟨_, rfl, _, _, rfl, rfl, (by show (0 : Int) < 2147483629; decide), ?_⟩
        generalize hy : (x * (16807 + 39373 * ((c0 + 1 : Nat) : Int)) + 40692 * ((c0 + 1 : Nat) : Int) * ((c0 + 1 : Nat) : Int) + 97) % (2147483629 : Int) = y
        have hy0 : 0 ≤ y := by rw [← hy]; exact Int.emod_nonneg _ (by decide)
        have hy1 : y < 2147483629 := by rw [← hy]; exact Int.emod_lt_of_pos _ (by decide)
        refine ⟨_, rfl, _, rfl, _, _, rfl, rfl, .inl ⟨by omega, by omega⟩, _, _, rfl, rfl, (by show (0 : Int) < 2147483587; decide), _, _, rfl, rfl, ⟨by decide, by decide⟩, _, rfl, _, _, rfl, rfl, hm, ?_⟩
        exact q H2 _ kp2 ⟨c0 + 1, [], cells, by omega, d2⟩ (Int.emod_nonneg _ (by omega)) (Int.emod_lt_of_pos _ hm)
      | cons b rest =>
        refine iteT ?_
        have top : SqL K (upd H1 p (.lst [])) D.a [.ref D.l1, .ref D.l2, .int c0] := .inl (.inl d1.top)
        have one : SqL K (upd H1 p (.lst [])) D.l1 ((b :: rest).map V.int) := .inl (.inl d1.one)
        refine ⟨_, rfl, D.a, _, 0, .ref D.l1, rfl, rfl, top, at0, D.l1, _, 0, .int b, rfl, rfl, one, at0, ?_⟩
        refine ⟨_, rfl, _, _, rfl, rfl, _, rfl, ite2 (fun e => ?_) (fun e => ?_)⟩
        · refine ⟨_, rfl, _, rfl, _, _, rfl, rfl, wide_div (b := 64) hm (by omega) (by decide) (by decide), ?_⟩
          refine ⟨_, rfl, D.a, _, 0, .ref D.l1, rfl, rfl, top, at0, D.l1, _, 0, 0, rfl, rfl, d1.one, ix0 (by simp), ?_⟩
          refine ⟨_, rfl, _, rfl, _, _, rfl, rfl, hm, ?_⟩
          refine q _ _ ?_ ?_ (Int.emod_nonneg _ (by omega)) (Int.emod_lt_of_pos _ hm)
          · intro z x e n1 n2
            rw [upd_ne n2]
            exact kp1 z x e n1 n2
          · exact ⟨c0, (b / m) :: rest, cells, by omega, by rw [upd_ne d.ne1]; exact d1.top, by rw [upd_same]; rfl, by rw [upd_ne d.ne3]; exact d1.two, d.pos, d.ne1, d.ne2, d.ne3⟩
        · refine ⟨_, rfl, D.a, _, 0, .ref D.l1, rfl, rfl, top, at0, .inl ⟨rfl, _, one⟩, D.l1, _, 0, 0, .int b, rfl, rfl, d1.one, by decide, by decide, seq0 (by simp), rfl, ?_⟩
          refine ⟨⟨_, rest, rfl, ⟨by rw [upd_ne d.ne1]; exact d1.top, by rw [upd_same]; rfl, by rw [upd_ne d.ne3]; exact d1.two, d.pos, d.ne1, d.ne2, d.ne3⟩, ?_⟩, ?_⟩
          · intro z x e n1 n2
            rw [upd_ne n2]
            exact kp1 z x e n1 n2
          · have e1 := d.one
            simp only [upd_same, e1]
            simp
    · obtain ⟨v, hv, p, xs, i, z, e1, e2, hs, ha, hl, h⟩ := h
      refine ⟨v, hv, p, xs, i, z, e1, e2, hs, ha, hl, fun p2 n2 => ?_⟩
      obtain ⟨d, e, a1, a2, a3, a4, k, e5, q⟩ := h p2 n2
      exact ⟨d, e, a1, a2, a3, a4, k, e5, f _ _ q⟩
end
end My

namespace My
open PySem PySem.Spec PyProof.Rows L2
theorem same_new {H : Hp} {p : Addr} {o : HO} (h : H p = none) : Same H (upd H p o) := fun b x e => upd_keep h e
theorem same_set {H H' : Hp} {p : Addr} {o : HO} (k : Same H H') (h : H p = none) : Same H (upd H' p o) := fun b x e => by
  rw [upd_ne (ne_of_none e h)]
  exact k b x e
def absI (n : Int) : Int := if n < 0 then -n else n
def bigs (ns : List Int) : List Int := ns.filter fun n => decide ((1000000000000000000 : Int) ≤ n)
def sp_q_deck (K : PySem.W.Frag) : Sp := fun vs H Q _ => ∃ (a : Addr) (ns : List Int), vs = [.ref a] ∧ SqL K H a (ns.map V.int) ∧ ns.length ≤ 63 ∧
  ∀ (H' : Hp) (D : Dk), Same H H' → H D.a = none → H D.l1 = none → H D.l2 = none → D.On H' 0 → Q (.ref D.a) H'
theorem bigs_take {ns : List Int} {i : Nat} {n : Int} (h : ns[i]? = some n) : bigs (ns.take (i + 1)) = bigs (ns.take i) ++ (if (1000000000000000000 : Int) ≤ n then [n] else []) := by
  unfold bigs
  rw [List.take_add_one, h, List.filter_append]
  by_cases c : (1000000000000000000 : Int) ≤ n
  · simp [c]
  · simp [c]
theorem line63 {n : Nat} (h : n ≤ 1000) : n < sizeLine := small1000 h
theorem le_line {n : Nat} (h : n ≤ 1000) : n ≤ sizeLine := Nat.le_of_lt (small1000 h)
section
variable {P : Program} {w : World} {K : PySem.W.Frag} {mg : Str → Option Value} {base : Heap}
theorem ok_q_deck (T : Txt K mg) : FnOk P w K mg base CX0 1 T.a_q_deck T.d_q_deck p_q_deck (sp_q_deck K) := by
  refine T.F_q_deck.ok sc_q_deck (fun vs H Q E h => ?_) (fun cdv A outer s H vs Q E hr h => ?_)
  · obtain ⟨a, ns, rfl, _⟩ := h
    rfl
  · obtain ⟨a, ns, rfl, hS, hl, q⟩ := h
    refine ⟨_, (pss_cons (ps_setLc (i := 1) (own := [("_law_cell", 2)]) (g := (gName 2)) (tt := tYes) rfl sc_q_deck.nd rfl rfl (sw_true rfl rfl rfl (by decide +kernel)) (pi_list (pv 0)) (blkOk_by (own := [("_law_cell", 2)]) (N := n_q_deck) (sc := defScope s_q_deck) (by decide +kernel)) (fun _ _ _ _ _ => (pg_name (i := 2) sc_q_deck.nd rfl (.inl rfl))) (fun _ _ _ _ _ => pts_nil) (fun _ _ _ _ _ => (pe_callB call_abs (by rfl) T.m_abs (by decide +kernel) (pa_cons (pv 2) pa_nil))))
(pss_one (ps_ret (pe_lst (pa_cons (pe_lc (own := [("_law_cell", 2)]) (g := (gName 2)) (tt := _) rfl sc_q_deck.nd (pi_list (pv 1)) (blkOk_by (own := [("_law_cell", 2)]) (N := n_q_deck) (sc := defScope s_q_deck) (by decide +kernel)) (fun _ _ _ _ _ => (pg_name (i := 2) sc_q_deck.nd rfl (.inl rfl))) (fun _ _ _ _ _ => pts_one (pt_cmpR op_ge (pv 2) (pe_op op_pow pe_int pe_int) (nomark _))) (fun _ _ _ _ _ => (pv 2))) (pa_cons (pe_op op_cat (pv 1) (pe_lst (pa_cons (pe_op op_add (pe_callB (call_len_seq) (by rfl) T.m_len PySem.boot_len (pa_cons (pv 1) pa_nil)) pe_int) pa_nil))) (pa_cons pe_int pa_nil))))))), ?_⟩
    refine ⟨.ref a, rfl, a, rfl, ⟨_, hS⟩, fun C nC => lc_list (K := K) (a := a) (xs := ns.map V.int) (fun i H' => Same H H' ∧ H' C = some (.lst (((ns.take i).map absI).map V.int)))
      ⟨same_new nC, upd_same⟩ (fun i H' _ h => h.1.seq hS) (fun i x H' hx hp => ?_) (fun H1 hp => ?_)⟩
    · obtain ⟨sm, eC⟩ := hp
      rw [List.getElem?_map] at hx
      cases e : ns[i]? with
      | none => rw [e] at hx; cases hx
      | some n =>
        rw [e] at hx
        cases hx
        refine ⟨rfl, ⟨_, rfl, n, rfl, _, eC, ?_, same_set sm nC, ?_⟩⟩
        · rw [List.length_map, List.length_map, List.length_take]
          exact small1000 (by omega)
        · rw [upd_same, List.take_add_one, e, List.map_append, List.map_append]
          rfl
    · obtain ⟨sm, eC⟩ := hp
      rw [List.length_map] at eC
      rw [List.take_length] at eC
      have hC : SqL K H1 C ((ns.map absI).map V.int) := .inl (.inl eC)
      refine ⟨_, rfl, C, rfl, ⟨_, hC⟩, fun B nB => lc_list (K := K) (a := C) (xs := (ns.map absI).map V.int) (fun i H' => Same H1 H' ∧ H' B = some (.lst ((bigs ((ns.map absI).take i)).map V.int)))
        ⟨same_new nB, upd_same⟩ (fun i H' _ h => h.1.seq hC) (fun i x H' hx hp => ?_) (fun H2 hp => ?_)⟩
      · obtain ⟨sm1, eB⟩ := hp
        rw [List.getElem?_map] at hx
        cases e : (ns.map absI)[i]? with
        | none => rw [e] at hx; cases hx
        | some n =>
          rw [e] at hx
          cases hx
          refine ⟨rfl, _, rfl, _, _, rfl, rfl, ⟨by decide, by decide, by decide⟩, _, _, rfl, rfl, _, rfl, ite2 (fun c => ?_) (fun c => ?_)⟩
          · have c' : (1000000000000000000 : Int) ≤ n := of_decide_eq_true c
            refine ⟨_, rfl, _, eB, ?_, same_set sm1 nB, ?_⟩
            · rw [List.length_map]
              have := List.length_filter_le (fun n => decide ((1000000000000000000 : Int) ≤ n)) ((ns.map absI).take i)
              rw [List.length_take, List.length_map] at this
              exact small1000 (by unfold bigs; omega)
            · rw [upd_same, bigs_take e, if_pos c', List.map_append]
              rfl
          · have c' : ¬ (1000000000000000000 : Int) ≤ n := fun z => c (decide_eq_true z)
            refine ⟨sm1, ?_⟩
            rw [bigs_take e, if_neg c', List.append_nil]
            exact eB
      · obtain ⟨sm1, eB⟩ := hp
        have nCB : C ≠ B := ne_of_none eC nB
        refine ⟨_, rfl, _, rfl, C, _, rfl, .inl (sm1.seq hC), _, _, rfl, rfl, le_line (by simp), fun p np => ?_⟩
        refine ⟨C, p, _, _, rfl, rfl, by rw [upd_ne (ne_of_none (sm1 _ _ eC) np)]; exact sm1 _ _ eC, upd_same, ?_, fun r nr => ⟨le_line (by simp), fun D nD => ?_⟩⟩
        · rw [List.length_map, List.length_map]
          exact Nat.le_of_lt (small1000 (by show ns.length + 1 ≤ 1000; omega))
        · have sA : Same H (upd (upd (upd H2 p (.lst [V.int (((ns.map absI).map V.int).length + 3)])) r (.lst ((ns.map absI).map V.int ++ [V.int (((ns.map absI).map V.int).length + 3)]))) D (.lst [.ref B, .ref r, .int 0])) :=
            ((sm.trans sm1).trans (same_new np)).trans ((same_new nr).trans (same_new nD))
          have eBp : (upd H2 p (.lst [V.int (((ns.map absI).map V.int).length + 3)])) B = some (.lst ((bigs (((ns.map absI)).take ((ns.map absI).map V.int).length)).map V.int)) := upd_keep np eB
          have hDB : D ≠ B := (ne_of_none (upd_keep nr eBp) nD).symm
          have hrB : r ≠ B := (ne_of_none eBp nr).symm
          have hDr : D ≠ r := fun z => by
            rw [z, upd_same] at nD
            cases nD
          have nr0 : H r = none := Same.free ((sm.trans sm1).trans (same_new np)) nr
          have nD0 : H D = none := Same.free (((sm.trans sm1).trans (same_new np)).trans (same_new nr)) nD
          have nB0 : H B = none := Same.free sm nB
          refine q _ ⟨D, B, r⟩ sA nD0 nB0 nr0 ⟨0, bigs ((ns.map absI).take ((ns.map absI).map V.int).length), ns.map absI ++ [((((ns.map absI).map V.int).length : Nat) : Int) + 3], Nat.le_refl 0, ?_, ?_, ?_, ?_, hDB, hDr, hrB⟩
          · rw [upd_same]
            rfl
          · rw [upd_ne hDB.symm]
            exact upd_keep nr eBp
          · rw [upd_ne hDr.symm, upd_same, List.map_append]
            rfl
          · rw [List.length_append]
            show 0 < _ + 1
            omega
end
end My

namespace My
open PySem PySem.Spec PyProof.Rows L2
/-! ### data of tuples and flat values -/
mutual
inductive Fz (H : Hp) : V → PyData → Prop
  | non : Fz H .non .none
  | bl (b : Bool) : Fz H (.bl b) (.bool b)
  | int (i : Int) : Fz H (.int i) (.int i)
  | str (x : Str) : Fz H (.str x) (.str x)
  | tup {a : Addr} {xs : List V} {ds : List PyData} : H a = some (.tup xs) → FzAll H xs ds → Fz H (.ref a) (.tuple ds)
inductive FzAll (H : Hp) : List V → List PyData → Prop
  | nil : FzAll H [] []
  | cons {v : V} {vs : List V} {d : PyData} {ds : List PyData} : Fz H v d → FzAll H vs ds → FzAll H (v :: vs) (d :: ds)
end
/-- tuples stand -/
def Tk (H H' : Hp) : Prop := ∀ b xs, H b = some (.tup xs) → H' b = some (.tup xs)
theorem Tk.refl {H : Hp} : Tk H H := fun _ _ e => e
theorem Tk.trans {H H1 H2 : Hp} (h : Tk H H1) (k : Tk H1 H2) : Tk H H2 := fun b x e => k b x (h b x e)
theorem Tk.new {H : Hp} {p : Addr} {o : HO} (h : H p = none) : Tk H (upd H p o) := fun b x e => upd_keep h e
theorem Tk.lst {H : Hp} {p : Addr} {o : HO} {ys : List V} (h : H p = some (.lst ys)) : Tk H (upd H p o) := fun b x e => by
  rw [upd_ne (fun z => by rw [z, h] at e; cases e)]
  exact e
theorem Same.tk {H H' : Hp} (h : Same H H') : Tk H H' := fun b _ e => h b _ e
theorem Keep.tk {D : Dk} {H H' : Hp} {c : Nat} (k : Keep D H H') (d : D.On H c) : Tk H H' := fun b xs e => by
  obtain ⟨_, _, _, _, d⟩ := d
  exact k b _ e (fun z => by rw [z, d.top] at e; cases e) (fun z => by rw [z, d.one] at e; cases e)
mutual
theorem Fz.tk {H H' : Hp} (k : Tk H H') : ∀ {v : V} {d : PyData}, Fz H v d → Fz H' v d
  | _, _, .non => .non
  | _, _, .bl b => .bl b
  | _, _, .int i => .int i
  | _, _, .str x => .str x
  | _, _, .tup e h => .tup (k _ _ e) (FzAll.tk k h)
theorem FzAll.tk {H H' : Hp} (k : Tk H H') : ∀ {v : List V} {d : List PyData}, FzAll H v d → FzAll H' v d
  | _, _, .nil => .nil
  | _, _, .cons h r => .cons (Fz.tk k h) (FzAll.tk k r)
end
theorem FzAll.len {H : Hp} : ∀ {vs : List V} {ds : List PyData}, FzAll H vs ds → vs.length = ds.length
  | _, _, .nil => rfl
  | _, _, .cons _ r => by rw [List.length_cons, List.length_cons, FzAll.len r]
theorem FzAll.get {H : Hp} : ∀ {vs : List V} {ds : List PyData} {i : Nat} {v : V}, FzAll H vs ds → vs[i]? = some v → ∃ d, ds[i]? = some d ∧ Fz H v d
  | _, _, _, _, .nil, e => by cases e
  | _, _, 0, _, .cons h _, e => by
    cases e
    exact ⟨_, rfl, h⟩
  | _, _, i + 1, _, .cons _ r, e => FzAll.get (i := i) r e
theorem FzAll.get2 {H : Hp} : ∀ {vs : List V} {ds : List PyData} {i : Nat} {d : PyData}, FzAll H vs ds → ds[i]? = some d → ∃ v, vs[i]? = some v ∧ Fz H v d
  | _, _, _, _, .nil, e => by cases e
  | _, _, 0, _, .cons h _, e => by
    cases e
    exact ⟨_, rfl, h⟩
  | _, _, i + 1, _, .cons _ r, e => FzAll.get2 (i := i) r e
theorem FzAll.app {H : Hp} : ∀ {vs ws : List V} {ds es : List PyData}, FzAll H vs ds → FzAll H ws es → FzAll H (vs ++ ws) (ds ++ es)
  | _, _, _, _, .nil, k => k
  | _, _, _, _, .cons h r, k => .cons h (FzAll.app r k)
theorem FzAll.one {H : Hp} {v : V} {d : PyData} (h : Fz H v d) : FzAll H [v] [d] := .cons h .nil
theorem Fz.tuple {H : Hp} {v : V} {ds : List PyData} (h : Fz H v (.tuple ds)) : ∃ a xs, v = .ref a ∧ H a = some (.tup xs) ∧ FzAll H xs ds := by
  cases h with
  | tup e k => exact ⟨_, _, rfl, e, k⟩
theorem Fz.intE {H : Hp} {v : V} {i : Int} (h : Fz H v (.int i)) : v = .int i := by
  cases h
  rfl
theorem fz_ints {H : Hp} : ∀ ns : List Int, FzAll H (ns.map V.int) (ns.map PyData.int)
  | [] => .nil
  | n :: r => .cons (.int n) (fz_ints r)
theorem FzAll.ints {H : Hp} : ∀ {vs : List V} {ns : List Int}, FzAll H vs (ns.map PyData.int) → vs = ns.map V.int
  | _, [], .nil => rfl
  | _, n :: r, .cons h k => by
    rw [Fz.intE h, FzAll.ints k]
    rfl
/-! ### any value, beside a deck -/
mutual
inductive Hd (D : Dk) (H : Hp) : V → PyData → Prop
  | non : Hd D H .non .none
  | bl (b : Bool) : Hd D H (.bl b) (.bool b)
  | int (i : Int) : Hd D H (.int i) (.int i)
  | str (x : Str) : Hd D H (.str x) (.str x)
  | tup {a : Addr} {xs : List V} {ds : List PyData} : H a = some (.tup xs) → HdAll D H xs ds → Hd D H (.ref a) (.tuple ds)
  | lst {a : Addr} {xs : List V} {ds : List PyData} : H a = some (.lst xs) → a ≠ D.a → a ≠ D.l1 → HdAll D H xs ds → Hd D H (.ref a) (.list ds)
  | dct {a : Addr} : H a = some (.dK []) → Hd D H (.ref a) (.dict [])
inductive HdAll (D : Dk) (H : Hp) : List V → List PyData → Prop
  | nil : HdAll D H [] []
  | cons {v : V} {vs : List V} {d : PyData} {ds : List PyData} : Hd D H v d → HdAll D H vs ds → HdAll D H (v :: vs) (d :: ds)
end
mutual
theorem Hd.keep {D : Dk} {H H' : Hp} {c : Nat} (o : D.On H c) (k : Keep D H H') : ∀ {v : V} {d : PyData}, Hd D H v d → Hd D H' v d
  | _, _, .non => .non
  | _, _, .bl b => .bl b
  | _, _, .int i => .int i
  | _, _, .str x => .str x
  | _, _, .tup e h => .tup (k.tk o _ _ e) (HdAll.keep o k h)
  | _, _, .lst e n1 n2 h => .lst (k _ _ e n1 n2) n1 n2 (HdAll.keep o k h)
  | _, _, .dct e => .dct (by
      obtain ⟨_, _, _, _, d⟩ := o
      exact k _ _ e (fun z => by rw [z, d.top] at e; cases e) (fun z => by rw [z, d.one] at e; cases e))
theorem HdAll.keep {D : Dk} {H H' : Hp} {c : Nat} (o : D.On H c) (k : Keep D H H') : ∀ {v : List V} {d : List PyData}, HdAll D H v d → HdAll D H' v d
  | _, _, .nil => .nil
  | _, _, .cons h r => .cons (Hd.keep o k h) (HdAll.keep o k r)
end
theorem Same.keep {D : Dk} {H H' : Hp} (h : Same H H') : Keep D H H' := fun b x e _ _ => h b x e
theorem HdAll.app {D : Dk} {H : Hp} : ∀ {vs ws : List V} {ds es : List PyData}, HdAll D H vs ds → HdAll D H ws es → HdAll D H (vs ++ ws) (ds ++ es)
  | _, _, _, _, .nil, k => k
  | _, _, _, _, .cons h r, k => .cons h (HdAll.app r k)
theorem HdAll.len {D : Dk} {H : Hp} : ∀ {vs : List V} {ds : List PyData}, HdAll D H vs ds → vs.length = ds.length
  | _, _, .nil => rfl
  | _, _, .cons _ r => by rw [List.length_cons, List.length_cons, HdAll.len r]
theorem HdAll.get {D : Dk} {H : Hp} : ∀ {vs : List V} {ds : List PyData} {i : Nat} {v : V}, HdAll D H vs ds → vs[i]? = some v → ∃ d, ds[i]? = some d ∧ Hd D H v d
  | _, _, _, _, .nil, e => by cases e
  | _, _, 0, _, .cons h _, e => by
    cases e
    exact ⟨_, rfl, h⟩
  | _, _, i + 1, _, .cons _ r, e => HdAll.get (i := i) r e
mutual
theorem Fz.hd {D : Dk} {H : Hp} : ∀ {v : V} {d : PyData}, Fz H v d → Hd D H v d
  | _, _, .non => .non
  | _, _, .bl b => .bl b
  | _, _, .int i => .int i
  | _, _, .str x => .str x
  | _, _, .tup e h => .tup e (FzAll.hd h)
theorem FzAll.hd {D : Dk} {H : Hp} : ∀ {v : List V} {d : List PyData}, FzAll H v d → HdAll D H v d
  | _, _, .nil => .nil
  | _, _, .cons h r => .cons (Fz.hd h) (FzAll.hd r)
end
theorem Dk.On.at_ne {D : Dk} {H : Hp} {c : Nat} {p : Addr} (d : D.On H c) (h : H p = none) : p ≠ D.a ∧ p ≠ D.l1 ∧ p ≠ D.l2 := by
  obtain ⟨_, _, _, _, d⟩ := d
  exact ⟨(ne_of_none d.top h).symm, (ne_of_none d.one h).symm, (ne_of_none d.two h).symm⟩
theorem Keep.free {D : Dk} {H H' : Hp} {c' : Nat} {p : Addr} (k : Keep D H H') (d : D.On H' c') (h : H' p = none) : H p = none := by
  cases e : H p with
  | none => rfl
  | some x =>
    obtain ⟨n1, n2, _⟩ := d.at_ne h
    have := k p x e n1 n2
    rw [h] at this
    cases this
theorem Dk.On.same {D : Dk} {H H' : Hp} {c : Nat} (d : D.On H c) (k : Same H H') : D.On H' c := by
  obtain ⟨c', b, s, h1, d⟩ := d
  exact ⟨c', b, s, h1, k _ _ d.top, k _ _ d.one, k _ _ d.two, d.pos, d.ne1, d.ne2, d.ne3⟩
/-- an item at a drawn place -/
theorem at_of {α : Type} {xs : List α} {r : Int} {n : Nat} (h : xs.length = n) (h0 : 0 ≤ r) (h1 : r < n) : ∃ v, atI xs r = some v ∧ xs[r.toNat]? = some v := by
  have hl : r.toNat < xs.length := by omega
  refine ⟨xs[r.toNat], ?_, List.getElem?_eq_getElem hl⟩
  have := atI_nat (xs := xs) (j := r.toNat) (List.getElem?_eq_getElem hl)
  rw [Int.toNat_of_nonneg h0] at this
  exact this
end My

namespace My
open PySem PySem.Spec PyProof.Rows L2
section
variable {X : Cx} {es : List Expr} {t : TA} {pos : Pos} {p q : Pos}
/-- what is asked may be weakened -/
def clo (t : TA) : TA := fun σ H Q => ∃ Q0 : List V → Hp → Prop, t σ H Q0 ∧ ∀ xs H1, Q0 xs H1 → Q xs H1
theorem pa_clo (h : PA X es t) : PA X es (clo t) := ⟨fun pos pins s σ H Q I hq => by
  obtain ⟨Q0, h0, h1⟩ := hq
  exact thn (h.run pos pins s σ H Q0 I h0) fun us s1 ⟨xs, H1, I1, r, z⟩ => ⟨xs, H1, I1, r, h1 _ _ z⟩⟩
/-- a list, a tuple, written: the new heap by what is known of it -/
def tLstF (t : TA) : TE := fun σ H Q => t σ H fun xs H1 => xs.length ≤ 1000 ∧ ∀ p H2, H1 p = none → Same H1 H2 → H2 p = some (.lst xs) → Q (.ref p) H2
def tTupF (t : TA) : TE := fun σ H Q => t σ H fun xs H1 => xs.length ≤ 1000 ∧ ∀ p H2, H1 p = none → Same H1 H2 → H2 p = some (.tup xs) → Q (.ref p) H2
theorem pe_lstF (h : PA X es t) : PE X (.List es pos) (tLstF t) := ⟨fun pins s σ H Q I hq =>
  (pe_lst (pa_clo h)).run pins s σ H Q I ⟨_, hq, fun xs H1 hx => ⟨le_line hx.1, fun p np => hx.2 p _ np (same_new np) upd_same⟩⟩⟩
theorem pe_tupF {k : Nat} (h : PA X es t) : PE X (.Tuple es k pos) (tTupF t) := ⟨fun pins s σ H Q I hq =>
  (pe_tup (pa_clo h)).run pins s σ H Q I ⟨_, hq, fun xs H1 hx => ⟨le_line hx.1, fun p np => hx.2 p _ np (same_new np) upd_same⟩⟩⟩
def tDctF : TE := fun _ H Q => ∀ p H2, H p = none → Same H H2 → H2 p = some (.dK []) → Q (.ref p) H2
theorem pe_dctF : PE X (.Dict [] [] pos) tDctF := ⟨fun pins s σ H Q I hq => pe_dnewK.run pins s σ H Q I fun p np => hq p _ np (same_new np) upd_same⟩
/-- xs + ys, lists -/
def rCatF : R2 := fun x y H Q => ∃ l b xs zs, x = .ref l ∧ y = .ref b ∧ H l = some (.lst xs) ∧ H b = some (.lst zs) ∧ xs.length + zs.length ≤ 1000 ∧ ∀ p H2, H p = none → Same H H2 → H2 p = some (.lst (xs ++ zs)) → Q (.ref p) H2
theorem op_catF : OpR X (binaryOp .Add) rCatF := fun pins s σ H x y v u Q I rx ry h => by
  obtain ⟨l, b, xs, zs, e1, e2, h1, h2, h3, q⟩ := h
  exact op_cat pins s σ H x y v u Q I rx ry ⟨l, b, xs, zs, e1, e2, h1, h2, le_line h3, fun p np => q p _ np (same_new np) upd_same⟩
/-- list(xs), tuple(xs) -/
def rListF : List V → Hp → VK → Prop := fun xs H Q => ∃ p ys, xs = [.ref p] ∧ (H p = some (.lst ys) ∨ H p = some (.tup ys)) ∧ ∀ l H2, H l = none → Same H H2 → H2 l = some (.lst ys) → Q (.ref l) H2
theorem call_listF : CallR X (.type "list") rListF := fun pins s σ H xs us Q I r h => by
  obtain ⟨p, ys, e, h1, q⟩ := h
  exact call_list_of pins s σ H xs us Q I r ⟨p, ys, e, h1.imp (fun z => .inl (.inl z)) (fun z => .inl (.inl z)), fun l nl => q l _ nl (same_new nl) upd_same⟩
def rTupF : List V → Hp → VK → Prop := fun xs H Q => ∃ p ys, xs = [.ref p] ∧ H p = some (.lst ys) ∧ ∀ l H2, H l = none → Same H H2 → H2 l = some (.tup ys) → Q (.ref l) H2
theorem call_tupF : CallR X (.type "tuple") rTupF := fun pins s σ H xs us Q I r h => by
  obtain ⟨p, ys, e, h1, q⟩ := h
  exact call_tuple_of pins s σ H xs us Q I r ⟨p, ys, e, .inl ⟨.inl (.inl h1), fun l nl => q l _ nl (same_new nl) upd_same⟩⟩
/-- xs[a:b], lists -/
def rSlF : V → Option Int → Option Int → Hp → VK → Prop := fun x lo hi H Q => ∃ a xs, x = .ref a ∧ H a = some (.lst xs) ∧ ∀ p H2, H p = none → Same H H2 → H2 p = some (.lst (cutV xs lo hi)) → Q (.ref p) H2
theorem sl_listF : SlR X rSlF := fun pins s σ H x v vl vu lo hi sl Q I rx hs pl pu h => by
  obtain ⟨a, xs, e, h1, q⟩ := h
  exact sl_list pins s σ H x v vl vu lo hi sl Q I rx hs pl pu ⟨a, xs, e, .inl (.inl h1), fun p np => q p _ np (same_new np) upd_same⟩
/-- t + u, tuples -/
def rCatTF : R2 := fun x y H Q => ∃ a b xs ys, x = .ref a ∧ y = .ref b ∧ H a = some (.tup xs) ∧ H b = some (.tup ys) ∧ xs ≠ [] ∧ xs.length + ys.length ≤ 1000 ∧
  ∀ p H2, Same H H2 → H2 p = some (.tup (xs ++ ys)) → Q (.ref p) H2
theorem op_catTF : OpR X (binaryOp .Add) rCatTF := fun pins s σ H x y v u Q I rx ry h => by
  obtain ⟨a, b, xs, ys, e1, e2, h1, h2, h3, h4, q⟩ := h
  refine op_catT pins s σ H x y v u Q I rx ry ⟨a, b, xs, ys, e1, e2, .inl (.inl h1), .inl (.inl h2), h3, le_line h4, fun z => ?_, fun _ p np => q p _ (same_new np) upd_same⟩
  subst z
  exact q a H (Same.refl H) (by rw [List.append_nil]; exact h1)
/-- t[a], a tuple's item -/
def rIxF : R2 := fun x y H Q => ∃ p xs i v, x = .ref p ∧ y = .int i ∧ (H p = some (.lst xs) ∨ H p = some (.tup xs)) ∧ atI xs i = some v ∧ Q v H
theorem ix_F : IxR X rIxF := fun value slice pins s σ H x y v u Q I rx ry h => by
  obtain ⟨p, xs, i, z, e1, e2, h1, h2, q⟩ := h
  exact ix_seq value slice pins s σ H x y v u Q I rx ry (h1.elim (fun z1 => .inl ⟨p, xs, i, z, e1, e2, .inl (.inl z1), h2, q⟩) fun z1 => .inr (.inl ⟨p, xs, i, z, e1, e2, .inl (.inl z1), h2, q⟩))
/-- len of a list, a tuple -/
def rLenF : List V → Hp → VK → Prop := fun xs H Q => ∃ p ys, xs = [.ref p] ∧ (H p = some (.lst ys) ∨ H p = some (.tup ys)) ∧ Q (.int (ys.length : Nat)) H
theorem call_lenF : CallR X (.builtin "len") rLenF := fun pins s σ H xs us Q I r h => by
  obtain ⟨p, ys, e, h1, q⟩ := h
  exact call_len_seq pins s σ H xs us Q I r ⟨p, ys, e, h1.imp (fun z => .inl (.inl z)) (fun z => .inl (.inl z)), q⟩
/-- isinstance(x, T), T of the built-in classes -/
def isiD (T : String) : PyData → Bool
  | .none => false
  | .bool _ => T == "int" || T == "bool"
  | .int _ => T == "int"
  | .str _ => T == "str"
  | .list _ => T == "list"
  | .tuple _ => T == "tuple"
  | .dict _ => T == "dict"
def kinds : List String := ["int", "bool", "str", "list", "tuple", "dict"]
def rIsiF (D : Dk) : List V → Hp → VK → Prop := fun xs H Q => ∃ (x : V) (T : String) (d : PyData), xs = [x, .ty T] ∧ T ∈ kinds ∧ Hd D H x d ∧ Q (.bl (isiD T d)) H
theorem hd_ty {D : Dk} {K : PySem.W.Frag} {H : Hp} {x : V} {d : PyData} {T : String} (hT : T ∈ kinds) (h : Hd D H x d) : ∃ t, TyX K H x t ∧ PySem.W.kitOne K t (.type T) = some (isiD T d) := by
  have cases6 : ∀ {Pr : String → Prop}, (∀ S ∈ kinds, Pr S) → Pr T := fun z => z T hT
  cases h with
  | non => exact ⟨_, .base .non, kit_ty (cases6 (Pr := fun T => kitB "NoneType" T = some (isiD T .none)) (by decide +kernel))⟩
  | bl b => exact ⟨_, .base (.bl b), kit_ty (cases6 (Pr := fun T => kitB "bool" T = some (T == "int" || T == "bool")) (by decide +kernel))⟩
  | int i => exact ⟨_, .base (.int i), kit_ty (cases6 (Pr := fun T => kitB "int" T = some (T == "int")) (by decide +kernel))⟩
  | str z => exact ⟨_, .base (.str z), kit_ty (cases6 (Pr := fun T => kitB "str" T = some (T == "str")) (by decide +kernel))⟩
  | tup e _ => exact ⟨_, .base (.tup e), kit_ty (cases6 (Pr := fun T => kitB "tuple" T = some (T == "tuple")) (by decide +kernel))⟩
  | lst e _ _ _ => exact ⟨_, .base (.lst e), kit_ty (cases6 (Pr := fun T => kitB "list" T = some (T == "list")) (by decide +kernel))⟩
  | dct e => exact ⟨_, .base (.dK e), kit_ty (cases6 (Pr := fun T => kitB "dict" T = some (T == "dict")) (by decide +kernel))⟩
theorem call_isiF (D : Dk) : CallR X (.builtin "isinstance") (rIsiF D) := fun pins s σ H xs us Q I r h => by
  obtain ⟨x, T, d, e, hT, hd, q⟩ := h
  obtain ⟨t, h1, h2⟩ := hd_ty (K := X.K) hT hd
  exact call_isi pins s σ H xs us Q I r ⟨x, .ty T, t, .type T, isiD T d, e, .ty T, h1, h2, q⟩
/-- is the datum a whole number -/
def wholeD : PyData → Bool
  | .int _ => true
  | _ => false
end
end My

namespace My
open PySem PySem.Spec PyProof.Rows L2
def oddD : List PyData := [.none, .bool true, .bool false, .int 0, .int 1, .int (-1), .int 2, .int 6, .int 8, .int (10 ^ 12), .int (10 ^ 12 + 1), .int (10 ^ 59), .str "", .str "0", .str "group", .tuple [], .tuple [.int 0],
  .tuple [.int 0, .int 1], .list [], .dict [], .list [.int 0], .tuple [.bool true], .tuple [.tuple []]]
def sp_q_odd : Sp := fun vs H Q _ => ∃ (D : Dk) (c : Nat), vs = [.ref D.a] ∧ D.On H c ∧ c < 2 ^ 40 ∧
  ∀ H' v d, Keep D H H' → D.On H' (c + 1) → Hd D H' v d → d ∈ oddD → Q v H'
def sp_q_great : Sp := fun vs H Q _ => ∃ (D : Dk) (c : Nat), vs = [.ref D.a] ∧ D.On H c ∧ c < 2 ^ 40 ∧
  ∀ H' r, Keep D H H' → D.On H' (c + 1) → 1 ≤ r → r ≤ 10 ^ 11 → Q (.int r) H'
section
variable {P : Program} {w : World} {K : PySem.W.Frag} {mg : Str → Option Value} {base : Heap}
theorem ok_q_odd (T : Txt K mg) : FnOk P w K mg base CX0 2 T.a_q_odd T.d_q_odd p_q_odd sp_q_odd := by
  have G_q_next : FnOk P w K mg base CX0 1 T.a_q_next T.d_q_next p_q_next sp_q_next := ok_q_next T
  refine T.F_q_odd.ok sc_q_odd (fun vs H Q E h => ?_) (fun cdv A outer s H vs Q E hr h => ?_)
  · obtain ⟨D, c, rfl, _⟩ := h
    rfl
  · obtain ⟨D, c, rfl, hD, hc, q⟩ := h
    refine ⟨_, (pss_cons (ps_set (i := 1) sc_q_odd.nd rfl (.inl rfl) (pe_lstF (pa_cons pe_non (pa_cons pe_bl (pa_cons pe_bl (pa_cons pe_int (pa_cons pe_int (pa_cons (pe_un un_neg pe_int) (pa_cons pe_int (pa_cons pe_int (pa_cons pe_int (pa_cons (pe_op op_pow pe_int pe_int) (pa_cons (pe_op op_add (pe_op op_pow pe_int pe_int) pe_int) (pa_cons (pe_op op_pow pe_int pe_int) (pa_cons pe_str (pa_cons pe_str (pa_cons pe_str (pa_cons (pe_tupF pa_nil) (pa_cons (pe_tupF (pa_cons pe_int pa_nil)) pa_nil)))))))))))))))))))
(pss_one (ps_ret (pe_ix ix_F (pe_op op_catF (pv 1) (pe_lstF (pa_cons (pe_tupF (pa_cons pe_int (pa_cons pe_int pa_nil))) (pa_cons (pe_lstF pa_nil) (pa_cons pe_dctF (pa_cons (pe_lstF (pa_cons pe_int pa_nil)) (pa_cons (pe_tupF (pa_cons pe_bl pa_nil)) (pa_cons (pe_tupF (pa_cons (pe_tupF pa_nil) pa_nil)) pa_nil)))))))) (pe_call G_q_next (hr.mono (by decide)) (by rfl) T.g_q_next T.F_q_next.kp T.b_q_next .nil pass0 (pa_cons (pv 0) (pa_cons pe_int pa_nil))) (fun _ _ => rfl))))), ?_⟩
    refine ⟨_, rfl, _, _, rfl, rfl, ⟨by decide, by decide, by decide⟩, _, _, rfl, rfl, ⟨by decide, by decide, by decide⟩, _, _, rfl, rfl, _, _, rfl, rfl, ⟨by decide, by decide, by decide⟩, by simp, fun p1 H1 n1 s1 e1 => ?_⟩
    refine ⟨by simp, fun p2 H2 n2 s2 e2 => ⟨by simp, fun p3 H3 n3 s3 e3 => ?_⟩⟩
    refine ⟨_, rfl, by simp, fun p4 H4 n4 s4 e4 => ⟨by simp, fun p5 H5 n5 s5 e5 => fun p6 H6 n6 s6 e6 => ⟨by simp, fun p7 H7 n7 s7 e7 => ⟨by simp, fun p8 H8 n8 s8 e8 => ⟨by simp, fun p9 H9 n9 s9 e9 => ⟨by simp, fun p10 H10 n10 s10 e10 => ⟨by simp, fun p11 H11 n11 s11 e11 => ?_⟩⟩⟩⟩⟩⟩⟩
    have t7 : Same H7 H11 := (s8.trans s9).trans (s10.trans s11)
    have t4 : Same H4 H11 := ((s5.trans s6).trans s7).trans t7
    have t3 : Same H3 H11 := s4.trans t4
    refine ⟨p3, p11, _, _, rfl, rfl, t3 _ _ e3, e11, by simp, fun p H12 np s12 ep => ?_⟩
    have o12 : D.On H12 c := hD.same (((s1.trans s2).trans (s3.trans t3)).trans s12)
    refine ⟨_, rfl, D, c, 23, rfl, o12, hc, by decide, by decide, fun H' r kp hD' h0 h1 => ?_⟩
    have l11 : Same H11 H12 := s12
    have np5 := (hD.same (((s1.trans s2).trans (s3.trans s4)))).at_ne n5
    have np7 := (hD.same (((s1.trans s2).trans (s3.trans s4)).trans (s5.trans s6))).at_ne n7
    have npp := (hD.same (((s1.trans s2).trans (s3.trans t3)))).at_ne np
    have all : HdAll D H12 [.non, .bl true, .bl false, .int 0, .int 1, .int (-1), .int 2, .int 6, .int 8, .int (10 ^ 12), .int (10 ^ 12 + 1), .int (10 ^ 59), .str "", .str "0", .str "group", .ref p1, .ref p2, .ref p4, .ref p5, .ref p6, .ref p7, .ref p8, .ref p10] oddD := by
      have z0 : HdAll D H12 [] [] := .nil
      have f9 : Hd D H12 (.ref p9) (.tuple []) := .tup (l11 _ _ ((s10.trans s11) _ _ e9)) z0
      refine .cons .non (.cons (.bl _) (.cons (.bl _) (.cons (.int _) (.cons (.int _) (.cons (.int _) (.cons (.int _) (.cons (.int _) (.cons (.int _) (.cons (.int _) (.cons (.int _) (.cons (.int _) (.cons (.str _) (.cons (.str _) (.cons (.str _) (.cons (.tup ?_ z0) (.cons (.tup ?_ (.cons (.int _) z0)) (.cons (.tup ?_ (.cons (.int _) (.cons (.int _) z0))) (.cons (.lst ?_ np5.1 np5.2.1 z0) (.cons (.dct ?_) (.cons (.lst ?_ np7.1 np7.2.1 (.cons (.int _) z0)) (.cons (.tup ?_ (.cons (.bl _) z0)) (.cons (.tup ?_ (.cons f9 z0)) z0))))))))))))))))))))))
      · exact l11 _ _ (t3 _ _ (s3 _ _ (s2 _ _ e1)))
      · exact l11 _ _ (t3 _ _ (s3 _ _ e2))
      · exact l11 _ _ (t4 _ _ e4)
      · exact l11 _ _ (t7 _ _ (s7 _ _ (s6 _ _ e5)))
      · exact l11 _ _ (t7 _ _ (s7 _ _ e6))
      · exact l11 _ _ (t7 _ _ e7)
      · exact l11 _ _ ((s9.trans (s10.trans s11)) _ _ e8)
      · exact l11 _ _ (s11 _ _ e10)
    obtain ⟨v, a1, a2⟩ := at_of (xs := [V.non, .bl true, .bl false, .int 0, .int 1, .int (-1), .int 2, .int 6, .int 8, .int (10 ^ 12), .int (10 ^ 12 + 1), .int (10 ^ 59), .str "", .str "0", .str "group", .ref p1, .ref p2, .ref p4, .ref p5, .ref p6, .ref p7, .ref p8, .ref p10]) (n := 23) rfl h0 h1
    obtain ⟨d, b1, b2⟩ := (all.keep o12 kp).get a2
    exact ⟨p, _, r, v, rfl, rfl, .inl (kp _ _ ep npp.1 npp.2.1), a1, q H' v d ((Same.keep (((s1.trans s2).trans (s3.trans t3)).trans s12)).trans kp) hD' b2 (List.mem_of_getElem? b1)⟩
theorem ok_q_great (T : Txt K mg) : FnOk P w K mg base CX0 2 T.a_q_great T.d_q_great p_q_great sp_q_great := by
  have G_q_next : FnOk P w K mg base CX0 1 T.a_q_next T.d_q_next p_q_next sp_q_next := ok_q_next T
  refine T.F_q_great.ok sc_q_great (fun vs H Q E h => ?_) (fun cdv A outer s H vs Q E hr h => ?_)
  · obtain ⟨D, c, rfl, _⟩ := h
    rfl
  · obtain ⟨D, c, rfl, hD, hc, q⟩ := h
    refine ⟨_, (pss_one (ps_ret (pe_ix ix_F (pe_lstF (pa_cons pe_int (pa_cons pe_int (pa_cons pe_int (pa_cons (pe_op op_pow pe_int pe_int) pa_nil))))) (pe_call G_q_next (hr.mono (by decide)) (by rfl) T.g_q_next T.F_q_next.kp T.b_q_next .nil pass0 (pa_cons (pv 0) (pa_cons pe_int pa_nil))) (fun _ _ => rfl)))), ?_⟩
    refine ⟨_, _, rfl, rfl, ⟨by decide, by decide, by decide⟩, by simp, fun p H1 np s1 ep => ?_⟩
    have o1 := hD.same s1
    have npp := hD.at_ne np
    refine ⟨_, rfl, D, c, 4, rfl, o1, hc, by decide, by decide, fun H' r kp hD' h0 h1 => ?_⟩
    have e : r = 0 ∨ r = 1 ∨ r = 2 ∨ r = 3 := by omega
    have k : Keep D H H' := (Same.keep s1).trans kp
    have ep' := kp _ _ ep npp.1 npp.2.1
    rcases e with rfl | rfl | rfl | rfl
    · exact ⟨p, _, 0, .int 1, rfl, rfl, .inl ep', at0, q H' 1 k hD' (by decide) (by decide)⟩
    · exact ⟨p, _, 1, .int 2, rfl, rfl, .inl ep', at1, q H' 2 k hD' (by decide) (by decide)⟩
    · exact ⟨p, _, 2, .int 4, rfl, rfl, .inl ep', at2, q H' 4 k hD' (by decide) (by decide)⟩
    · exact ⟨p, _, 3, .int (10 ^ 11), rfl, rfl, .inl ep', atI_nat (j := 3) rfl, q H' (10 ^ 11) k hD' (by decide) (by decide)⟩
end
end My

namespace My
open PySem PySem.Spec PyProof.Rows L2
abbrev Gs := List (Int × Int)
def stD (p : Int × Int) : PyData := .tuple [.int p.1, .int p.2]
def gD (g : Gs) : PyData := .tuple (g.map stD)
def capG (g : Gs) : Int := (g.map (·.1)).sum
theorem step_of {H : Hp} {xs : List V} {g : Gs} {i : Nat} {x : V} (h : FzAll H xs (g.map stD)) (e : xs[i]? = some x) : ∃ p b, g[i]? = some p ∧ x = .ref b ∧ H b = some (.tup [.int p.1, .int p.2]) := by
  obtain ⟨d, e1, k⟩ := h.get e
  rw [List.getElem?_map] at e1
  cases e2 : g[i]? with
  | none => rw [e2] at e1; cases e1
  | some p =>
    rw [e2] at e1
    cases e1
    obtain ⟨a, ys, rfl, h1, h2⟩ := k.tuple
    have h3 : FzAll H ys ([p.1, p.2].map PyData.int) := h2
    rw [h3.ints] at h1
    exact ⟨p, a, rfl, rfl, h1⟩
theorem map_take_next {α β : Type} {f : α → β} {g : List α} {i : Nat} {p : α} (e : g[i]? = some p) : (g.take (i + 1)).map f = (g.take i).map f ++ [f p] := by
  rw [List.take_add_one, e, List.map_append]
  rfl
theorem take_len {α : Type} {g : List α} {i n : Nat} (h : g.length ≤ n) : (g.take i).length ≤ n := by
  rw [List.length_take]
  omega
def sp_cap : Sp := fun vs H Q _ => ∃ (v : V) (g : Gs), vs = [v] ∧ Fz H v (gD g) ∧ g.length ≤ 900 ∧ ∀ H', Same H H' → Q (.int (capG g)) H'
section
variable {P : Program} {w : World} {K : PySem.W.Frag} {mg : Str → Option Value} {base : Heap}
theorem ok_capacity_of_gains (T : Txt K mg) : FnOk P w K mg base CX0 1 T.a_capacity_of_gains T.d_capacity_of_gains p_capacity_of_gains sp_cap := by
  refine T.F_capacity_of_gains.ok sc_capacity_of_gains (fun vs H Q E h => ?_) (fun cdv A outer s H vs Q E hr h => ?_)
  · obtain ⟨v, g, rfl, _⟩ := h
    rfl
  · obtain ⟨v, g, rfl, hv, hl, q⟩ := h
    obtain ⟨a, xs, rfl, ha, hx⟩ := hv.tuple
    refine ⟨_, (pss_one (ps_ret (pe_callB (cr_sum rfl) (by rfl) T.m_sum (by decide +kernel) (pa_cons (pe_lc (own := [("count", 1), ("gain", 2)]) (g := (gTup K 2 (gCons (gName 1) (gCons (gName 2) gNil)))) (tt := tYes) rfl sc_capacity_of_gains.nd (pi_tup (pv 0)) (blkOk_by (own := [("count", 1), ("gain", 2)]) (N := n_capacity_of_gains) (sc := defScope s_capacity_of_gains) (by decide +kernel)) (fun _ _ _ _ _ => (pg_tup (by rfl) (pgs_cons (pg_name (i := 1) sc_capacity_of_gains.nd rfl (.inl rfl)) (pgs_cons (pg_name (i := 2) sc_capacity_of_gains.nd rfl (.inl rfl)) pgs_nil)))) (fun _ _ _ _ _ => pts_nil) (fun _ _ _ _ _ => (pv 1))) pa_nil)))), ?_⟩
    refine ⟨_, rfl, a, rfl, ⟨_, .inl (.inl ha)⟩, fun C nC => lc_tup (K := K) (a := a) (xs := xs) (fun i H' => Same H H' ∧ H' C = some (.lst (((g.take i).map (·.1)).map V.int)))
      ⟨same_new nC, upd_same⟩ (fun i H' _ h => .inl (.inl (h.1 _ _ ha))) (fun i x H' hxi hp => ?_) (fun H1 hp => ?_)⟩
    · obtain ⟨sm, eC⟩ := hp
      obtain ⟨p, b, e1, rfl, e2⟩ := step_of hx hxi
      refine ⟨b, _, rfl, .inl (.inl (sm _ _ e2)), rfl, _, _, rfl, _, _, rfl, rfl, rfl, _, rfl, _, eC, ?_, same_set sm nC, ?_⟩
      · rw [List.length_map, List.length_map]
        exact small1000 (by have := take_len (i := i) hl; omega)
      · rw [upd_same, map_take_next e1, List.map_append]
        rfl
    · obtain ⟨sm, eC⟩ := hp
      rw [hx.len, List.length_map, List.take_length] at eC
      exact ⟨C, _, rfl, .inl (.inl eC), q H1 sm⟩
theorem ok_q_capacity (T : Txt K mg) : FnOk P w K mg base CX0 1 T.a_q_capacity T.d_q_capacity p_q_capacity sp_cap := by
  refine T.F_q_capacity.ok sc_q_capacity (fun vs H Q E h => ?_) (fun cdv A outer s H vs Q E hr h => ?_)
  · obtain ⟨v, g, rfl, _⟩ := h
    rfl
  · obtain ⟨v, g, rfl, hv, hl, q⟩ := h
    obtain ⟨a, xs, rfl, ha, hx⟩ := hv.tuple
    refine ⟨_, (pss_one (ps_ret (pe_callB (cr_sum rfl) (by rfl) T.m_sum (by decide +kernel) (pa_cons (pe_lc (own := [("_law_count", 1), ("_law_gain", 2)]) (g := (gTup K 2 (gCons (gName 1) (gCons (gName 2) gNil)))) (tt := tYes) rfl sc_q_capacity.nd (pi_tup (pv 0)) (blkOk_by (own := [("_law_count", 1), ("_law_gain", 2)]) (N := n_q_capacity) (sc := defScope s_q_capacity) (by decide +kernel)) (fun _ _ _ _ _ => (pg_tup (by rfl) (pgs_cons (pg_name (i := 1) sc_q_capacity.nd rfl (.inl rfl)) (pgs_cons (pg_name (i := 2) sc_q_capacity.nd rfl (.inl rfl)) pgs_nil)))) (fun _ _ _ _ _ => pts_nil) (fun _ _ _ _ _ => (pv 1))) pa_nil)))), ?_⟩
    refine ⟨_, rfl, a, rfl, ⟨_, .inl (.inl ha)⟩, fun C nC => lc_tup (K := K) (a := a) (xs := xs) (fun i H' => Same H H' ∧ H' C = some (.lst (((g.take i).map (·.1)).map V.int)))
      ⟨same_new nC, upd_same⟩ (fun i H' _ h => .inl (.inl (h.1 _ _ ha))) (fun i x H' hxi hp => ?_) (fun H1 hp => ?_)⟩
    · obtain ⟨sm, eC⟩ := hp
      obtain ⟨p, b, e1, rfl, e2⟩ := step_of hx hxi
      refine ⟨b, _, rfl, .inl (.inl (sm _ _ e2)), rfl, _, _, rfl, _, _, rfl, rfl, rfl, _, rfl, _, eC, ?_, same_set sm nC, ?_⟩
      · rw [List.length_map, List.length_map]
        exact small1000 (by have := take_len (i := i) hl; omega)
      · rw [upd_same, map_take_next e1, List.map_append]
        rfl
    · obtain ⟨sm, eC⟩ := hp
      rw [hx.len, List.length_map, List.take_length] at eC
      exact ⟨C, _, rfl, .inl (.inl eC), q H1 sm⟩
/-- gains that are made here: at most n steps, each of at most m units, the gains fall -/
structure GoodG (m : Int) (n : Nat) (g : Gs) : Prop where
  len : g.length ≤ n
  cnt : ∀ p ∈ g, 1 ≤ p.1 ∧ p.1 ≤ m
  gn : ∀ p ∈ g, -100 ≤ p.2 ∧ p.2 ≤ 100
  fall : g.Pairwise fun p r => r.2 < p.2
def sp_q_gains : Sp := fun vs H Q _ => ∃ (D : Dk) (c n : Nat) (m : Int), vs = [.ref D.a, .int m, .int (n : Int)] ∧ D.On H c ∧ c < 2 ^ 39 ∧ 1 ≤ m ∧ m < 2 ^ 60 ∧ n ≤ 5 ∧
  ∀ H' v g, Keep D H H' → D.On H' (c + 12) → Fz H' v (gD g) → GoodG m n g → Q v H'
theorem ok_q_gains (T : Txt K mg) : FnOk P w K mg base CX0 2 T.a_q_gains T.d_q_gains p_q_gains sp_q_gains := by
  have G_q_next : FnOk P w K mg base CX0 1 T.a_q_next T.d_q_next p_q_next sp_q_next := ok_q_next T
  refine T.F_q_gains.ok sc_q_gains (fun vs H Q E h => ?_) (fun cdv A outer s H vs Q E hr h => ?_)
  · obtain ⟨D, c, n, m, rfl, _⟩ := h
    rfl
  · obtain ⟨D, c, n, m, rfl, hD, hc, hm, hm2, hn, q⟩ := h
    refine ⟨_, (pss_cons (ps_par (i := 3) (j := 4) rfl sc_q_gains.nd rfl rfl (by decide) rfl rfl (pa_cons (pe_op op_sub (pe_call G_q_next (hr.mono (by decide)) (by rfl) T.g_q_next T.F_q_next.kp T.b_q_next .nil pass0 (pa_cons (pv 0) (pa_cons pe_int pa_nil))) pe_int) (pa_cons (pe_lstF pa_nil) pa_nil)) (by rfl))
(pss_cons (ps_for PassesOwn.never rfl (pi_range1 (by rfl) T.m_range (pa_cons (pe_call G_q_next (hr.mono (by decide)) (by rfl) T.g_q_next T.F_q_next.kp T.b_q_next .nil pass0 (pa_cons (pv 0) (pa_cons (pe_op op_add (pv 2) pe_int) pa_nil))) pa_nil)) (pg_name (i := 5) sc_q_gains.nd rfl (.inl rfl))
(pss_cons (ps_expr (pe_bm PySem.F.plainAttrs_list PySem.F.slot_list_append PySem.F.type_list_append mt_append (pv 4) (pa_cons (pe_tupF (pa_cons (pe_op op_add pe_int (pe_call G_q_next (hr.mono (by decide)) (by rfl) T.g_q_next T.F_q_next.kp T.b_q_next .nil pass0 (pa_cons (pv 0) (pa_cons (pv 1) pa_nil)))) (pa_cons (pv 3) pa_nil))) pa_nil)))
(pss_one (ps_set (i := 3) sc_q_gains.nd rfl (.inl rfl) (pe_op op_sub (pe_op op_sub (pv 3) pe_int) (pe_call G_q_next (hr.mono (by decide)) (by rfl) T.g_q_next T.F_q_next.kp T.b_q_next .nil pass0 (pa_cons (pv 0) (pa_cons pe_int pa_nil))))))))
(pss_one (ps_ret (pe_callTy call_tupF (by rfl) T.m_tuple (by decide +kernel) (pa_cons (pv 4) pa_nil)))))), ?_⟩
    refine ⟨_, rfl, D, c, 9, rfl, hD, by omega, by decide, by decide, fun H1 r1 k1 d1 b0 b1 => ?_⟩
    refine ⟨_, _, rfl, rfl, by simp, fun l H2 nl s2 el => ?_⟩
    have d2 := d1.same s2
    have k2 : Keep D H H2 := k1.trans (Same.keep s2)
    have nlH : H l = none := k1.free d1 nl
    have nel := d1.at_ne nl
    refine ⟨_, _, rfl, _, rfl, _, rfl, _, _, rfl, rfl, D, c + 1, (n : Int) + 1, rfl, d2, by omega, by omega, by omega, fun H3 r3 k3 d3 c0 c1 => ?_⟩
    obtain ⟨N, rfl⟩ : ∃ N : Nat, r3 = N := ⟨r3.toNat, (Int.toNat_of_nonneg c0).symm⟩
    refine ⟨N, rfl, by omega, by omega, ?_⟩
    rw [Int.toNat_natCast]
    refine for_range (lo := 0) (n := N) (fun i σ H' => ∃ (gain : Int) (xs : List V) (g : Gs) (y5 : Option V), σ = [some (.ref D.a), some (.int m), some (.int (n : Int)), some (.int gain), some (.ref l), y5] ∧ Keep D H H' ∧ D.On H' (c + 2 + 2 * i) ∧ H' l = some (.lst xs) ∧
        FzAll H' xs (g.map stD) ∧ g.length = i ∧ (∀ p ∈ g, 1 ≤ p.1 ∧ p.1 ≤ m) ∧ (∀ p ∈ g, gain < p.2 ∧ -1 - 3 * (i : Int) ≤ p.2 ∧ p.2 ≤ 8) ∧ gain ≤ 8 ∧ -1 - 3 * (i : Int) ≤ gain ∧ g.Pairwise (fun p r => r.2 < p.2))
      ⟨_, [], [], _, rfl, k2.trans k3, d3.mono (by omega), k3 _ _ el nel.1 nel.2.1, .nil, rfl, (by intro p hp; cases hp), (by intro p hp; cases hp), by omega, by omega, .nil⟩ (fun i σ H' hi hp => ?_) (fun σ H' hp => ?_)
    · obtain ⟨gain, xs, g, y5, rfl, kp, dp, el', fz, hg, b2, b3, b4, b5, b6⟩ := hp
      have hxl : xs.length = i := by rw [fz.len, List.length_map, hg]
      refine ⟨_, rfl, .inl ⟨rfl, _, .inl (.inl el')⟩, _, rfl, _, rfl, D, c + 2 + 2 * i, m, rfl, dp, by omega, by omega, by omega, fun H4 r4 k4 d4 e0 e1 => ⟨_, _, rfl, rfl, _, rfl, by simp, fun t H5 nt s5 et => ?_⟩⟩
      have el5 := s5 _ _ (k4 _ _ el' nel.1 nel.2.1)
      refine ⟨l, xs, _, rfl, rfl, el5, by rw [hxl]; exact small1000 (by omega), ?_⟩
      have d5 := d4.same s5
      have k5 : Keep D H' H5 := k4.trans (Same.keep s5)
      have t5 : Tk H' H5 := k5.tk dp
      have tl := Tk.lst (o := HO.lst (xs ++ [V.ref t])) el5
      refine ⟨_, rfl, _, _, rfl, rfl, _, rfl, D, c + 2 + 2 * i + 1, 3, rfl, d5.put nel.1 nel.2.1 nel.2.2, by omega, by decide, by decide, fun H6 r6 k6 d6 g0 g1 => ⟨_, _, rfl, rfl, ?_⟩⟩
      have d5' : D.On (upd H5 l (.lst (xs ++ [V.ref t]))) (c + 2 + 2 * i + 1) := d5.put nel.1 nel.2.1 nel.2.2
      have tk6 : Tk (upd H5 l (.lst (xs ++ [V.ref t]))) H6 := k6.tk d5'
      refine ⟨_, xs ++ [V.ref t], g ++ [(1 + r4, gain)], _, rfl, ((kp.trans k5).set nlH).trans k6, d6.mono (by omega), k6 _ _ upd_same nel.1 nel.2.1, ?_, by rw [List.length_append, hg]; rfl, ?_, ?_, by omega, by omega, ?_⟩
      · rw [List.map_append]
        refine ((fz.tk t5).tk (tl.trans tk6)).app (.one (.tup (tk6 _ _ (tl _ _ et)) (.cons (.int _) (.cons (.int _) .nil))))
      · intro p hp
        rcases List.mem_append.mp hp with z | z
        · exact b2 p z
        · rw [List.mem_singleton] at z
          subst z
          exact ⟨by show 1 ≤ 1 + r4; omega, by show 1 + r4 ≤ m; omega⟩
      · intro p hp
        rcases List.mem_append.mp hp with z | z
        · have := b3 p z
          exact ⟨by omega, by omega, by omega⟩
        · rw [List.mem_singleton] at z
          subst z
          exact ⟨by show gain - 1 - r6 < gain; omega, by show _ ≤ gain; omega, by show gain ≤ 8; omega⟩
      · refine List.pairwise_append.mpr ⟨b6, List.pairwise_singleton _ _, fun p hp r hr => ?_⟩
        rw [List.mem_singleton] at hr
        subst hr
        exact (b3 p hp).1
    · obtain ⟨gain, xs, g, y5, rfl, kp, dp, el', fz, hg, b2, b3, b4, b5, b6⟩ := hp
      refine ⟨_, rfl, l, xs, rfl, el', fun p H4 np s4 ep => ?_⟩
      refine q H4 _ g (kp.trans (Same.keep s4)) ((dp.same s4).mono (by omega)) (.tup ep (fz.tk (Same.tk s4))) ⟨by omega, b2, fun p hp => ?_, b6⟩
      have := b3 p hp
      exact ⟨by omega, by omega⟩
end
end My

namespace My
open PySem PySem.Spec PyProof.Rows L2
section
variable {prog : Program} {w : World} {A : Around} {E : Value → Shared → Prop} {s : Shared}
/-- the heap behind the gathering of us -/
def gathered (h : Heap) (us : List Value) : Heap := (h.push (seqObj "list" #[] 0)).update h.objs.size (Obj.mapSeq (· ++ us.toArray))
theorem gathered_size (h : Heap) (us : List Value) : (gathered h us).objs.size = h.objs.size + 1 := by
  unfold gathered
  rw [Heap.size_update, size_push']
theorem gather_tup {a : Addr} {us : List Value} {R : List Value → Shared → Prop} (ht : IsTup s.heap a us.toArray) (hz : us.length ≤ sizeLine) (k : R us { s with heap := gathered s.heap us }) :
    wpAny (model prog w) A (collect (.ref a)) R E s := by
  obtain ⟨ob, hob, hcl, m, hdat⟩ := id ht
  unfold collect
  refine wpAny_bind (wpAny_runValue (codeAny_builtin entry_proto_collect' ?_))
  show wpAny _ _ (newList [] >>= fun acc => again (.builtin "list.__iadd__" ⟨[acc, .ref a], []⟩)) _ _ s
  refine wpAny_bind (wpAny_newList (wpAny_pure ⟨Code.quiet_builtin _ (by decide +kernel), codeAny_builtin entry_list_iadd' ?_⟩))
  show wpAny _ _ (Builtin.List.listExtendWith (.ref s.heap.objs.size) (.ref a) (.ref s.heap.objs.size)) _ _ { s with heap := s.heap.push (seqObj "list" #[] 0) }
  unfold Builtin.List.listExtendWith
  have hob' : (s.heap.push (seqObj "list" #[] 0)).get? a = some ob := Heap.get?_push_of_some _ hob
  refine wpAny_bind (wpAny_typeOf (T := "tuple") ⟨ob, hob', hcl⟩ ?_)
  have isT : (Value.type "tuple" == Value.type "tuple") = true := by rfl
  rw [if_pos (by rw [isT]; simp)]
  refine wpAny_bind (listItems_at hob' hdat (wpAny_bind (listItems_at (xs := #[]) (n := 0) (Heap.get?_push_size _ rfl) rfl ?_)))
  rw [if_neg (by simp)]
  refine wpAny_bind (listUpdate_at (xs := #[]) (n := 0) (Heap.get?_push_size _ rfl) rfl ?_ (Nat.zero_le _) (by show (#[] ++ us.toArray).size ≤ sizeLine + 1; simp only [Array.size_append, List.size_toArray, List.length_nil]; omega))
  refine wpAny_pure (show wpAny (model prog w) A (do
      let fin ← load s.heap.objs.size
      match fin.data with
      | .seq got _ => pure got.toList
      | _ => unsupported "internal:collect") R E { s with heap := gathered s.heap us } from wpAny_bind (wpAny_load (get?_update_seq (Heap.get?_push_size _ rfl) _) ?_))
  show wpAny _ _ (pure ((#[] : Array Value) ++ us.toArray).toList) R E _
  rw [show ((#[] : Array Value) ++ us.toArray).toList = us by simp]
  exact wpAny_pure k
theorem sorted_tup {a : Addr} {us : List Value} {ns : List Int} {R : Value → Shared → Prop} (ht : IsTup s.heap a us.toArray) (hI : IntsAre us ns) (h64 : us.length < 64)
    (k : ∀ (out : Array Value) (ms : List Int), IntsAre out.toList ms → ms.Perm ns → ms.Pairwise (· ≤ ·) → R (.ref (s.heap.objs.size + 1)) { s with heap := sortedAll s.heap us out }) :
    wpAny (model prog w) A (call (.builtin "sorted") [.ref a]) R E s := by
  have hz : us.length ≤ sizeLine := by rw [sizeLine_eq]; omega
  refine Calls.call_function_entry kind_sorted plain_sorted entry_sorted (args_sorted1 _) ?_
  unfold Builtin.«sorted»
  refine wpAny_bind (m := checkCount "sorted" 1 1 _) (wpAny_pure (wpAny_bind (gather_tup ht hz (wpAny_bind (wpAny_newList ?_ hz)))))
  have hL : ((gathered s.heap us).push (seqObj "list" us.toArray 0)).get? (s.heap.objs.size + 1) = some (seqObj "list" us.toArray 0) := by
    rw [← gathered_size s.heap us]
    exact Heap.get?_push_size _ rfl
  show wpAny _ _ _ _ _ { s with heap := (gathered s.heap us).push (seqObj "list" us.toArray 0) }
  rw [gathered_size]
  refine wpAny_bind (wpAny_holding (wpAny_call_entry slot_list_sort ⟨_, hL, rfl⟩ entry_list_sort (list_sort_tree hL hI h64 fun out ms b1 b2 b3 => ⟨_, rfl, ?_⟩) (args_list_sort _)))
  exact wpAny_pure ⟨_, rfl, k out ms b1 b2 b3⟩
end
section
variable {X : Cx}
/-- sorted(t), t a tuple or a list of fewer than 64 ints -/
def rSortF : List V → Hp → VK → Prop := fun vs H Q => ∃ (a : Addr) (ns : List Int), vs = [.ref a] ∧ (H a = some (.lst (ns.map V.int)) ∨ H a = some (.tup (ns.map V.int))) ∧ ns.length < 64 ∧
  ∀ (ms : List Int) (p : Addr) (H2 : Hp), ms.Perm ns → ms.Pairwise (· ≤ ·) → H p = none → Same H H2 → H2 p = some (.lst (ms.map V.int)) → Q (.ref p) H2
theorem cr_sortF : CallR X (.builtin "sorted") rSortF := by
  intro pins s σ H vs us Q I r h
  obtain ⟨a, ns, rfl, hs, h64, q⟩ := h
  rcases hs with hs | hs
  · exact cr_sorted pins s σ H _ us Q I r ⟨a, ns, rfl, .inl (.inl hs), h64, fun ms p h1 h2 np => q ms p _ h1 h2 np (same_new np) upd_same⟩
  · obtain ⟨its, rv, ht, _⟩ := I.tuple (.inl (.inl hs))
    rw [Vals.ref1 r]
    have hi := rv.ints
    refine sorted_tup ht hi (by rw [hi.length]; exact h64) fun out ms h1 h2 h3 => ?_
    obtain ⟨ep, at2⟩ := PyProof.Rows.sortedAll_at s.heap its out
    have hz : (ms.map V.int).length ≤ sizeLine := by rw [List.length_map, h2.length_eq]; exact small64 h64
    have np : H (s.heap.objs.size + 1) = none := I.hok.fresh (Nat.le_succ _)
    exact ⟨.ref _, upd H (s.heap.objs.size + 1) (.lst (ms.map V.int)), I.laid (t' := s.toks) (fun _ _ => PyProof.Rows.sortedAll_old) (Nat.le_succ _) ⟨hz, out.toList, ep, vals_of_ints h1, at2⟩, rfl, q ms _ _ h2 h3 np (same_new np) upd_same⟩
end
end My

namespace My
open PySem PySem.Spec PyProof.Rows L2
/-! ### families of groups that never cross -/
structure GoodMs (n : Nat) (ms : List Int) : Prop where
  ne : ms ≠ []
  rg : ∀ k ∈ ms, 0 ≤ k ∧ k < n
  asc : ms.Pairwise (· < ·)
  len : ms.length ≤ n
def Below (f g : List Int) : Prop := (∀ k ∈ f, k ∉ g) ∨ ((∀ k ∈ f, k ∈ g) ∧ f.length < g.length)
structure Fam (n : Nat) (fs bs : List (List Int)) : Prop where
  perm : bs.flatten.Perm ((List.range n).map Int.ofNat)
  blk : ∀ b ∈ bs, b ≠ [] ∧ b.Pairwise (· ≤ ·)
  sub : ∀ f ∈ fs, GoodMs n f ∧ ∃ b ∈ bs, (∀ k ∈ f, k ∈ b) ∧ f.length ≤ b.length
  lam : fs.Pairwise Below
theorem range_nodup (n : Nat) : ((List.range n).map Int.ofNat).Nodup :=
  List.Pairwise.map _ (fun a b h z => h (Int.ofNat.inj z)) List.nodup_range
theorem asc_of : ∀ {l : List Int}, l.Pairwise (· ≤ ·) → l.Nodup → l.Pairwise (· < ·)
  | [], _, _ => .nil
  | x :: r, h, d => by
    rw [List.pairwise_cons] at h
    rw [List.nodup_cons] at d
    refine List.pairwise_cons.mpr ⟨fun y hy => ?_, asc_of h.2 d.2⟩
    have := h.1 y hy
    have : x ≠ y := fun z => d.1 (z ▸ hy)
    omega
theorem mem_flat_sub {b : List Int} {bs : List (List Int)} (h : b ∈ bs) : b.Sublist bs.flatten := List.sublist_flatten_of_mem h
theorem Fam.good {n : Nat} {fs bs : List (List Int)} (F : Fam n fs bs) {b : List Int} (h : b ∈ bs) : GoodMs n b := by
  obtain ⟨h1, h2⟩ := F.blk b h
  have s := mem_flat_sub h
  have nd : bs.flatten.Nodup := (F.perm.nodup_iff).mpr (range_nodup n)
  refine ⟨h1, fun k hk => ?_, asc_of h2 (nd.sublist s), ?_⟩
  · have := F.perm.mem_iff.mp (s.subset hk)
    rw [List.mem_map] at this
    obtain ⟨j, hj, rfl⟩ := this
    rw [List.mem_range] at hj
    exact ⟨Int.natCast_nonneg j, by show (j : Int) < n; omega⟩
  · have := s.length_le
    rw [F.perm.length_eq, List.length_map, List.length_range] at this
    exact this
theorem cons_erase {α : Type} : ∀ {l : List α} {i : Nat} {x : α}, l[i]? = some x → (x :: l.eraseIdx i).Perm l
  | [], _, _, h => by cases h
  | y :: r, 0, x, h => by
    cases h
    exact .refl _
  | y :: r, i + 1, x, h => by
    have h' : r[i]? = some x := h
    exact (List.Perm.swap y x _).trans ((cons_erase h').cons y)
theorem mem_erase {α : Type} {l : List α} {i : Nat} {x y : α} (h : l[i]? = some x) (hy : y ∈ l) : y = x ∨ y ∈ l.eraseIdx i := by
  have := (cons_erase h).mem_iff.mpr hy
  rwa [List.mem_cons] at this
theorem len_erase {α : Type} {l : List α} {i : Nat} {x : α} (h : l[i]? = some x) : (l.eraseIdx i).length + 1 = l.length := by
  have := (cons_erase h).length_eq
  rw [List.length_cons] at this
  exact this
theorem Fam.merge {n : Nat} {fs bs : List (List Int)} {i j : Nat} {one other m : List Int} (F : Fam n fs bs) (h1 : bs[i]? = some one) (h2 : (bs.eraseIdx i)[j]? = some other) (hm : m.Perm (one ++ other)) (ho : m.Pairwise (· ≤ ·)) :
    Fam n fs ((bs.eraseIdx i).eraseIdx j ++ [m]) ∧ ∀ f ∈ fs, Below f m := by
  have p1 := cons_erase h1
  have p2 := cons_erase h2
  have p3 : (one :: other :: (bs.eraseIdx i).eraseIdx j).Perm bs := (p2.cons one).trans p1
  have m1 : one ∈ bs := p1.mem_iff.mp List.mem_cons_self
  have m2 : other ∈ bs := p3.mem_iff.mp (List.mem_cons_of_mem _ List.mem_cons_self)
  have fl : (one ++ (other ++ ((bs.eraseIdx i).eraseIdx j).flatten)).Perm bs.flatten := p3.flatten
  have nd : (one ++ (other ++ ((bs.eraseIdx i).eraseIdx j).flatten)).Nodup := (fl.nodup_iff).mpr ((F.perm.nodup_iff).mpr (range_nodup n))
  have hone := F.blk one m1
  have hoth := F.blk other m2
  have lm : m.length = one.length + other.length := by rw [hm.length_eq, List.length_append]
  have l1 : 0 < one.length := List.length_pos_iff.mpr hone.1
  have l2 : 0 < other.length := List.length_pos_iff.mpr hoth.1
  have where_ : ∀ b ∈ bs, b = one ∨ b = other ∨ b ∈ (bs.eraseIdx i).eraseIdx j := fun b hb => by
    rcases mem_erase h1 hb with z | z
    · exact .inl z
    · exact .inr (mem_erase h2 z)
  refine ⟨⟨?_, ?_, ?_, F.lam⟩, ?_⟩
  · rw [List.flatten_append]
    refine List.Perm.trans ?_ (fl.trans F.perm)
    rw [show [m].flatten = m from by simp]
    refine (List.perm_append_comm).trans ?_
    rw [← List.append_assoc]
    exact hm.append_right _
  · intro b hb
    rcases List.mem_append.mp hb with z | z
    · exact F.blk b (p3.mem_iff.mp (List.mem_cons_of_mem _ (List.mem_cons_of_mem _ z)))
    · rw [List.mem_singleton] at z
      subst z
      refine ⟨fun e => ?_, ho⟩
      rw [e] at lm
      simp at lm
      omega
  · intro f hf
    obtain ⟨g, b, hb, k1, k2⟩ := F.sub f hf
    refine ⟨g, ?_⟩
    rcases where_ b hb with z | z | z
    · subst z
      exact ⟨m, by simp, fun k hk => hm.mem_iff.mpr (List.mem_append_left _ (k1 k hk)), by omega⟩
    · subst z
      exact ⟨m, by simp, fun k hk => hm.mem_iff.mpr (List.mem_append_right _ (k1 k hk)), by omega⟩
    · exact ⟨b, List.mem_append_left _ z, k1, k2⟩
  · intro f hf
    obtain ⟨g, b, hb, k1, k2⟩ := F.sub f hf
    rcases where_ b hb with z | z | z
    · subst z
      exact .inr ⟨fun k hk => hm.mem_iff.mpr (List.mem_append_left _ (k1 k hk)), by omega⟩
    · subst z
      exact .inr ⟨fun k hk => hm.mem_iff.mpr (List.mem_append_right _ (k1 k hk)), by omega⟩
    · refine .inl fun k hk hkm => ?_
      have hkr : k ∈ ((bs.eraseIdx i).eraseIdx j).flatten := List.mem_flatten.mpr ⟨b, z, k1 k hk⟩
      rw [← List.append_assoc] at nd
      exact (List.nodup_append.mp nd).2.2 k (hm.mem_iff.mp hkm) k hkr rfl
theorem Fam.add {n : Nat} {fs bs : List (List Int)} {m : List Int} (F : Fam n fs bs) (hm : m ∈ bs) (hb : ∀ f ∈ fs, Below f m) : Fam n (fs ++ [m]) bs := by
  refine ⟨F.perm, F.blk, fun f hf => ?_, List.pairwise_append.mpr ⟨F.lam, List.pairwise_singleton _ _, fun f hf g hg => ?_⟩⟩
  · rcases List.mem_append.mp hf with z | z
    · exact F.sub f z
    · rw [List.mem_singleton] at z
      subst z
      exact ⟨F.good hm, f, hm, fun _ h => h, Nat.le_refl _⟩
  · rw [List.mem_singleton] at hg
    subst hg
    exact hb f hf
def singles (n : Nat) : List (List Int) := (List.range n).map fun (k : Nat) => [(k : Int)]
theorem singles_flat (n : Nat) : (singles n).flatten = (List.range n).map Int.ofNat := by
  unfold singles
  induction List.range n with
  | nil => rfl
  | cons k r ih =>
    rw [List.map_cons, List.flatten_cons, ih]
    rfl
theorem fam0 (n : Nat) : Fam n [] (singles n) := by
  refine ⟨(by rw [singles_flat]), fun b hb => ?_, (fun f hf => (by cases hf)), List.Pairwise.nil⟩
  unfold singles at hb
  rw [List.mem_map] at hb
  obtain ⟨k, _, rfl⟩ := hb
  exact ⟨by simp, List.pairwise_singleton _ _⟩
theorem singles_get {n i : Nat} (h : i < n) : (singles n)[i]? = some [(i : Int)] := by
  unfold singles
  rw [List.getElem?_map, List.getElem?_range h]
  rfl
theorem singles_len (n : Nat) : (singles n).length = n := by
  unfold singles
  rw [List.length_map, List.length_range]
/-- what is handed out -/
structure Lam (n : Nat) (fs : List (List Int)) : Prop where
  good : ∀ f ∈ fs, GoodMs n f
  lam : fs.Pairwise Below
  len : fs.length ≤ 8
theorem Fam.cut {n : Nat} {fs bs : List (List Int)} (F : Fam n fs bs) {a b : Nat} (h : ((fs.drop a).take b).length ≤ 8) : Lam n ((fs.drop a).take b) :=
  ⟨fun f hf => (F.sub f (List.mem_of_mem_drop (List.mem_of_mem_take hf))).1, (F.lam.sublist ((List.take_sublist _ _).trans (List.drop_sublist _ _))), h⟩
end My

namespace My
open PySem PySem.Spec PyProof.Rows L2
def msD (ms : List Int) : PyData := .tuple (ms.map PyData.int)
theorem ms_of {H : Hp} {xs : List V} {fs : List (List Int)} {i : Nat} {x : V} (h : FzAll H xs (fs.map msD)) (e : xs[i]? = some x) : ∃ f b, fs[i]? = some f ∧ x = .ref b ∧ H b = some (.tup (f.map V.int)) := by
  obtain ⟨d, e1, k⟩ := h.get e
  rw [List.getElem?_map] at e1
  cases e2 : fs[i]? with
  | none => rw [e2] at e1; cases e1
  | some f =>
    rw [e2] at e1
    cases e1
    obtain ⟨a, ys, rfl, h1, h2⟩ := k.tuple
    rw [h2.ints] at h1
    exact ⟨f, a, rfl, rfl, h1⟩
theorem fz_ms {H : Hp} {b : Addr} {f : List Int} (h : H b = some (.tup (f.map V.int))) : Fz H (.ref b) (msD f) := .tup h (fz_ints f)
theorem FzAll.drop {H : Hp} : ∀ (n : Nat) {vs : List V} {ds : List PyData}, FzAll H vs ds → FzAll H (vs.drop n) (ds.drop n)
  | 0, _, _, h => h
  | _ + 1, _, _, .nil => .nil
  | n + 1, _, _, .cons _ r => FzAll.drop n r
theorem FzAll.take {H : Hp} : ∀ (n : Nat) {vs : List V} {ds : List PyData}, FzAll H vs ds → FzAll H (vs.take n) (ds.take n)
  | 0, _, _, _ => .nil
  | _ + 1, _, _, .nil => .nil
  | n + 1, _, _, .cons h r => .cons h (FzAll.take n r)
theorem FzAll.erase {H : Hp} : ∀ (i : Nat) {vs : List V} {ds : List PyData}, FzAll H vs ds → FzAll H (vs.eraseIdx i) (ds.eraseIdx i)
  | _, _, _, .nil => .nil
  | 0, _, _, .cons _ r => r
  | i + 1, _, _, .cons h r => .cons h (FzAll.erase i r)
theorem map_erase {α β : Type} (f : α → β) : ∀ (i : Nat) (l : List α), (l.map f).eraseIdx i = (l.eraseIdx i).map f
  | _, [] => rfl
  | 0, _ :: _ => rfl
  | i + 1, x :: r => by
    show f x :: (r.map f).eraseIdx i = f x :: (r.eraseIdx i).map f
    rw [map_erase f i r]
def sp_q_family : Sp := fun vs H Q _ => ∃ (D : Dk) (c n : Nat), vs = [.ref D.a, .int (n : Int)] ∧ D.On H c ∧ c < 2 ^ 39 ∧ 1 ≤ n ∧ n ≤ 6 ∧
  ∀ H' p xs fs, H p = none → Keep D H H' → D.On H' (c + 60) → H' p = some (.lst xs) → p ≠ D.a → p ≠ D.l1 → p ≠ D.l2 → FzAll H' xs (fs.map msD) → Lam n fs → Q (.ref p) H'
theorem seq_of {r : Int} {n : Nat} (h0 : 0 ≤ r) (h1 : r < n) : seqIndex? r n = some r.toNat := seqIndex_of h0 h1
theorem getQ {α : Type} {xs : List α} {i : Nat} (h : i < xs.length) : ∃ v, xs[i]? = some v := ⟨_, List.getElem?_eq_getElem h⟩
section
variable {P : Program} {w : World} {K : PySem.W.Frag} {mg : Str → Option Value} {base : Heap}
theorem ok_q_family (T : Txt K mg) : FnOk P w K mg base CX0 2 T.a_q_family T.d_q_family p_q_family sp_q_family := by
  have G_q_next : FnOk P w K mg base CX0 1 T.a_q_next T.d_q_next p_q_next sp_q_next := ok_q_next T
  refine T.F_q_family.ok sc_q_family (fun vs H Q E h => ?_) (fun cdv A outer s H vs Q E hr h => ?_)
  · obtain ⟨D, c, n, rfl, _⟩ := h
    rfl
  · obtain ⟨D, c, n, rfl, hD, hc, hn1, hn6, q⟩ := h
    refine ⟨_, (pss_cons (ps_par (i := 2) (j := 3) rfl sc_q_family.nd rfl rfl (by decide) rfl rfl (pa_cons (pe_lc (own := [("_law_k", 7)]) (g := (gName 7)) (tt := tYes) rfl sc_q_family.nd (pi_range1 (by rfl) T.m_range (pa_cons (pv 1) pa_nil)) (blkOk_by (own := [("_law_k", 7)]) (N := n_q_family) (sc := defScope s_q_family) (by decide +kernel)) (fun _ _ _ _ _ => (pg_name (i := 7) sc_q_family.nd rfl (.inl rfl))) (fun _ _ _ _ _ => pts_nil) (fun _ _ _ _ _ => (pe_tupF (pa_cons (pv 7) pa_nil)))) (pa_cons (pe_lstF pa_nil) pa_nil)) (by rfl))
(pss_cons (ps_for PassesOwn.never rfl (pi_list (pe_callTy call_listF (by rfl) T.m_list (by decide +kernel) (pa_cons (pv 2) pa_nil))) (pg_name (i := 4) sc_q_family.nd rfl (.inl rfl))
(pss_one (ps_if (pt_cmpR op_eq (pe_call G_q_next (hr.mono (by decide)) (by rfl) T.g_q_next T.F_q_next.kp T.b_q_next .nil pass0 (pa_cons (pv 0) (pa_cons pe_int pa_nil))) pe_int (nomark _))
(pss_one (ps_expr (pe_bm PySem.F.plainAttrs_list PySem.F.slot_list_append PySem.F.type_list_append mt_append (pv 3) (pa_cons (pv 4) pa_nil))))
pss_nil)))
(pss_cons (ps_while PassesOwn.never (PW.pt (pw_and (pt_cmpR op_gt (pe_callB call_lenF (by rfl) T.m_len PySem.boot_len (pa_cons (pv 2) pa_nil)) pe_int (nomark _)) (pw_and1 (pt_cmpR op_gt (pe_call G_q_next (hr.mono (by decide)) (by rfl) T.g_q_next T.F_q_next.kp T.b_q_next .nil pass0 (pa_cons (pv 0) (pa_cons pe_int pa_nil))) pe_int (nomark _)))))
(pss_cons (ps_set (i := 5) sc_q_family.nd rfl (.inl rfl) (pe_bm PySem.F.plainAttrs_list PySem.F.slot_list_pop PySem.F.type_list_pop mt_popAt (pv 2) (pa_cons (pe_call G_q_next (hr.mono (by decide)) (by rfl) T.g_q_next T.F_q_next.kp T.b_q_next .nil pass0 (pa_cons (pv 0) (pa_cons (pe_callB call_lenF (by rfl) T.m_len PySem.boot_len (pa_cons (pv 2) pa_nil)) pa_nil))) pa_nil)))
(pss_cons (ps_set (i := 6) sc_q_family.nd rfl (.inl rfl) (pe_bm PySem.F.plainAttrs_list PySem.F.slot_list_pop PySem.F.type_list_pop mt_popAt (pv 2) (pa_cons (pe_call G_q_next (hr.mono (by decide)) (by rfl) T.g_q_next T.F_q_next.kp T.b_q_next .nil pass0 (pa_cons (pv 0) (pa_cons (pe_callB call_lenF (by rfl) T.m_len PySem.boot_len (pa_cons (pv 2) pa_nil)) pa_nil))) pa_nil)))
(pss_cons (ps_expr (pe_bm PySem.F.plainAttrs_list PySem.F.slot_list_append PySem.F.type_list_append mt_append (pv 2) (pa_cons (pe_callTy call_tupF (by rfl) T.m_tuple (by decide +kernel) (pa_cons (pe_callB cr_sortF (by rfl) T.m_sorted (by decide +kernel) (pa_cons (pe_op op_catTF (pv 5) (pv 6)) pa_nil)) pa_nil)) pa_nil)))
(pss_one (ps_if (pt_cmpR op_gt (pe_call G_q_next (hr.mono (by decide)) (by rfl) T.g_q_next T.F_q_next.kp T.b_q_next .nil pass0 (pa_cons (pv 0) (pa_cons pe_int pa_nil))) pe_int (nomark _))
(pss_one (ps_expr (pe_bm PySem.F.plainAttrs_list PySem.F.slot_list_append PySem.F.type_list_append mt_append (pv 3) (pa_cons (pe_ix ix_F (pv 2) (pe_un un_neg pe_int) (fun _ _ => rfl)) pa_nil))))
pss_nil))))))
(pss_one (ps_ret (pe_slice sl_listF (pv 3) (po_some (pe_un un_neg pe_int)) po_none)))))), ?_⟩
    refine ⟨_, rfl, (n : Int), rfl, by omega, by omega, fun lb nlb => lc_range (lo := 0) (n := (n : Int).toNat) (fun i H' => Same H H' ∧ ∃ acc, H' lb = some (.lst acc) ∧ FzAll H' acc (((singles n).take i).map msD))
      ⟨same_new nlb, [], upd_same, .nil⟩ (fun i H' hi hp => ?_) (fun H1 hp => ?_)⟩
    · obtain ⟨sm, acc, eb, fz⟩ := hp
      have hin : i < n := by simpa using hi
      have la : acc.length ≤ 6 := by
        have := fz.len
        rw [List.length_map] at this
        have := take_len (i := i) (show (singles n).length ≤ 6 by rw [singles_len]; omega)
        omega
      refine ⟨rfl, ⟨_, rfl, by simp, fun p H2 np s2 ep => ⟨acc, s2 _ _ eb, small1000 (by omega), ?_⟩⟩⟩
      have tl := Tk.lst (o := HO.lst (acc ++ [V.ref p])) (s2 _ _ eb)
      refine ⟨same_set (sm.trans s2) nlb, _, upd_same, ?_⟩
      rw [map_take_next (singles_get hin)]
      have ep' : H2 p = some (.tup ([(i : Int)].map V.int)) := by
        rw [ep]
        simp
      exact ((fz.tk (Same.tk s2)).tk tl).app (.one (fz_ms (tl _ _ ep')))
    · obtain ⟨s1, xb, eb, fzb⟩ := hp
      rw [show (singles n).take (n : Int).toNat = singles n by rw [List.take_of_length_le (by rw [singles_len]; simp)]] at fzb
      have d1 := hD.same s1
      have nb := hD.at_ne nlb
      have lxb : xb.length = n := by rw [fzb.len, List.length_map, singles_len]
      refine ⟨by simp, fun lf H2 nlf s2 ef => ⟨_, _, rfl, ?_⟩⟩
      have d2 := d1.same s2
      have nf := d1.at_ne nlf
      have nlfH : H lf = none := Same.free s1 nlf
      have nbf : lb ≠ lf := ne_of_none eb nlf
      refine ⟨_, rfl, lb, xb, rfl, .inl (s2 _ _ eb), fun lc H3 nlc s3 ec => ⟨lc, rfl, ⟨_, .inl (.inl ec)⟩, ?_⟩⟩
      have d3 := d2.same s3
      have nc := d2.at_ne nlc
      have k3 : Keep D H H3 := Same.keep ((s1.trans s2).trans s3)
      have ncf : lc ≠ lf := (ne_of_none ef nlc).symm
      have nlcb : lc ≠ lb := (ne_of_none (s2 _ _ eb) nlc).symm
      have nlcH : H lc = none := Same.free (s1.trans s2) nlc
      -- the singles that are taken
      refine for_list (K := K) (a := lc) (xs := xb) (fun i σ H' => ∃ xf fs y4, σ = [some (.ref D.a), some (.int n), some (.ref lb), some (.ref lf), y4, none, none, none] ∧ Keep D H H' ∧ D.On H' (c + i) ∧ H' lc = some (.lst xb) ∧ H' lb = some (.lst xb) ∧ H' lf = some (.lst xf) ∧
          FzAll H' xb ((singles n).map msD) ∧ FzAll H' xf (fs.map msD) ∧ Fam n fs (singles n) ∧ fs.length ≤ i ∧ ∀ f ∈ fs, ∃ k : Nat, k < i ∧ f = [(k : Int)])
        ⟨[], [], none, rfl, k3, d3, ec, s3 _ _ (s2 _ _ eb), s3 _ _ ef, (fzb.tk (Same.tk (s2.trans s3))), .nil, fam0 n, Nat.le_refl 0, (by intro f hf; cases hf)⟩ (fun i σ H' hi hp => ?_) (fun i x σ H' hx hp => ?_) (fun σ H' hp => ?_)
      · obtain ⟨_, _, _, _, _, _, h, _⟩ := hp
        exact .inl (.inl h)
      · obtain ⟨xf, fs, y4, rfl, kp, dp, ec', eb', ef', fz1, fz2, F, hl, hk⟩ := hp
        obtain ⟨f, b, hf, rfl, hb⟩ := ms_of fz1 hx
        have hin : i < n := by
          have := (List.getElem?_eq_some_iff.mp hx).1
          omega
        rw [singles_get hin] at hf
        cases hf
        refine ⟨_, rfl, D, c + i, 5, rfl, dp, by omega, by decide, by decide, fun H4 r k4 d4 r0 r1 => ?_⟩
        have t4 : Tk H' H4 := k4.tk dp
        have ec4 := k4 _ _ ec' nc.1 nc.2.1
        have eb4 := k4 _ _ eb' nb.1 nb.2.1
        have ef4 := k4 _ _ ef' nf.1 nf.2.1
        refine ⟨rfl, _, rfl, ite2 (fun e => ?_) (fun e => ?_)⟩
        · refine ⟨_, rfl, .inl ⟨rfl, _, .inl (.inl ef4)⟩, _, rfl, lf, xf, _, rfl, rfl, ef4, ?_, ?_⟩
          · rw [fz2.len, List.length_map]
            exact small1000 (by omega)
          · have tl := Tk.lst (o := HO.lst (xf ++ [V.ref b])) ef4
            refine ⟨xf ++ [V.ref b], fs ++ [[(i : Int)]], _, rfl, (kp.trans k4).set nlfH, (d4.put nf.1 nf.2.1 nf.2.2).mono (by omega), by rw [upd_ne ncf]; exact ec4, by rw [upd_ne nbf]; exact eb4, upd_same, (fz1.tk t4).tk tl, ?_, ?_, ?_, ?_⟩
            · rw [List.map_append]
              exact ((fz2.tk t4).tk tl).app (.one (fz_ms (tl _ _ (t4 _ _ hb))))
            · refine F.add (List.mem_of_getElem? (singles_get hin)) fun f hf => .inl fun k hk1 hk2 => ?_
              obtain ⟨j, hj, rfl⟩ := hk f hf
              rw [List.mem_singleton] at hk1 hk2
              omega
            · rw [List.length_append]
              show fs.length + 1 ≤ i + 1
              omega
            · intro f hf
              rcases List.mem_append.mp hf with z | z
              · obtain ⟨j, hj, e⟩ := hk f z
                exact ⟨j, by omega, e⟩
              · rw [List.mem_singleton] at z
                exact ⟨i, by omega, z⟩
        · exact ⟨xf, fs, _, rfl, kp.trans k4, d4.mono (by omega), ec4, eb4, ef4, fz1.tk t4, fz2.tk t4, F, by omega, fun f hf => let ⟨j, hj, e⟩ := hk f hf; ⟨j, by omega, e⟩⟩
      · obtain ⟨xf, fs, y4, rfl, kp, dp, ec', eb', ef', fz1, fz2, F, hl, hk⟩ := hp
        rw [lxb] at dp hl
        -- the merging
        refine ⟨fun m σ H' => ∃ xb xf bs fs y4 y5 y6, σ = [some (.ref D.a), some (.int n), some (.ref lb), some (.ref lf), y4, y5, y6, none] ∧ Keep D H H' ∧ bs.length = m ∧ 1 ≤ m ∧ m ≤ n ∧ D.On H' (c + n + 5 * (n - m)) ∧ H' lb = some (.lst xb) ∧ H' lf = some (.lst xf) ∧
            FzAll H' xb (bs.map msD) ∧ FzAll H' xf (fs.map msD) ∧ Fam n fs bs ∧ fs.length + m ≤ 2 * n,
          ⟨n, xb, xf, singles n, fs, y4, none, none, rfl, kp, singles_len n, hn1, Nat.le_refl _, dp.mono (by omega), eb', ef', fz1, fz2, F, by omega⟩, fun m σ H' hp => ?_⟩
        clear fz1 fz2 F hl hk dp ec' eb' ef' kp
        obtain ⟨xb, xf, bs, fs, y4, y5, y6, rfl, kp, hbl, hm1, hmn, dp, eb', ef', fz1, fz2, F, hl⟩ := hp
        have lxb : xb.length = m := by rw [fz1.len, List.length_map, hbl]
        have fin : ∀ H4, Keep D H' H4 → D.On H4 (c + n + 5 * (n - m) + 1) → ∀ p H2, H4 p = none → Same H4 H2 → H2 p = some (.lst (cutV xf (some (-8)) none)) → Q (.ref p) H2 := by
          intro H4 k4 d4 p H2 np s2 ep
          have np' := d4.at_ne np
          refine q H2 p _ ((fs.drop (HT.sIx xf.length 0 (some (-8)))).take (HT.sIx xf.length xf.length none - HT.sIx xf.length 0 (some (-8)))) ((kp.trans k4).free d4 np) ((kp.trans k4).trans (Same.keep s2)) ((d4.same s2).mono (by omega)) ep np'.1 np'.2.1 np'.2.2 ?_ ?_
          · rw [List.map_take, List.map_drop]
            exact ((fz2.tk (k4.tk dp)).tk (Same.tk s2)).drop _ |>.take _
          · refine F.cut ?_
            rw [List.length_take, List.length_drop, HT.sIx_none]
            have e : HT.sIx xf.length 0 (some (-8)) = xf.length - 8 := by
              show (if (-8 : Int) < 0 then ((-8 : Int) + (xf.length : Int)).toNat else min (-8 : Int).toNat xf.length) = xf.length - 8
              rw [if_pos (by decide)]
              omega
            rw [e]
            omega
        refine ⟨_, rfl, lb, xb, rfl, .inl eb', _, _, rfl, rfl, _, rfl, ite2 (fun e => ?_) (fun e => ?_)⟩
        · have hm2 : 2 ≤ m := by
            have := of_decide_eq_true e
            omega
          refine ⟨_, rfl, D, c + n + 5 * (n - m), 6, rfl, dp, by omega, by decide, by decide, fun H4 r4 k4 d4 _ _ => ⟨_, _, rfl, rfl, _, rfl, ite2 (fun e4 => ?_) (fun e4 => ?_)⟩⟩
          · have eb4 := k4 _ _ eb' nb.1 nb.2.1
            have ef4 := k4 _ _ ef' nf.1 nf.2.1
            have t4 : Tk H' H4 := k4.tk dp
            refine ⟨fun σ' H' => ∃ m', m' < m ∧ ∃ xb xf bs fs y4 y5 y6, σ' = [some (.ref D.a), some (.int n), some (.ref lb), some (.ref lf), y4, y5, y6, none] ∧ Keep D H H' ∧ bs.length = m' ∧ 1 ≤ m' ∧ m' ≤ n ∧ D.On H' (c + n + 5 * (n - m')) ∧ H' lb = some (.lst xb) ∧ H' lf = some (.lst xf) ∧
              FzAll H' xb (bs.map msD) ∧ FzAll H' xf (fs.map msD) ∧ Fam n fs bs ∧ fs.length + m' ≤ 2 * n, fun _ _ h => h, ?_⟩
            -- one
            refine ⟨_, rfl, .inl ⟨rfl, _, .inl (.inl eb4)⟩, _, rfl, _, rfl, lb, xb, rfl, .inl eb4, D, c + n + 5 * (n - m) + 1, (xb.length : Nat), rfl, d4, by omega, by omega, by omega, fun H5 r5 k5 d5 r50 r51 => ?_⟩
            have eb5 := k5 _ _ eb4 nb.1 nb.2.1
            have ef5 := k5 _ _ ef4 nf.1 nf.2.1
            have t5 : Tk H4 H5 := k5.tk d4
            obtain ⟨v1, hv1⟩ := getQ (xs := xb) (i := r5.toNat) (by omega)
            refine ⟨lb, xb, r5, r5.toNat, v1, rfl, rfl, eb5, by omega, by omega, seq_of r50 r51, hv1, ?_⟩
            obtain ⟨one, b1, h1, rfl, hb1⟩ := ms_of ((fz1.tk t4).tk t5) hv1
            have fz1' := ((fz1.tk t4).tk t5).erase r5.toNat
            rw [map_erase] at fz1'
            have tl6 := Tk.lst (o := HO.lst (xb.eraseIdx r5.toNat)) eb5
            have d6 : D.On (upd H5 lb (.lst (xb.eraseIdx r5.toNat))) (c + n + 5 * (n - m) + 1 + 1) := d5.put nb.1 nb.2.1 nb.2.2
            have k6 : Keep D H (upd H5 lb (.lst (xb.eraseIdx r5.toNat))) := ((kp.trans k4).trans k5).set nlb
            have ef6 : (upd H5 lb (.lst (xb.eraseIdx r5.toNat))) lf = some (.lst xf) := by
              rw [upd_ne nbf.symm]
              exact ef5
            have lx1 : (xb.eraseIdx r5.toNat).length + 1 = m := by rw [len_erase hv1, lxb]
            have eb6 : (upd H5 lb (.lst (xb.eraseIdx r5.toNat))) lb = some (.lst (xb.eraseIdx r5.toNat)) := upd_same
            have hb6 := tl6 _ _ hb1
            have fz6 := fz1'.tk tl6
            have fy6 := ((fz2.tk t4).tk t5).tk tl6
            generalize upd H5 lb (.lst (xb.eraseIdx r5.toNat)) = H6 at d6 k6 ef6 eb6 hb6 fz6 fy6 ⊢
            -- other
            refine ⟨_, rfl, .inl ⟨rfl, _, .inl (.inl eb6)⟩, _, rfl, _, rfl, lb, _, rfl, .inl eb6, D, c + n + 5 * (n - m) + 1 + 1, ((xb.eraseIdx r5.toNat).length : Nat), rfl, d6, by omega, by omega, by omega, fun H7 r7 k7 d7 r70 r71 => ?_⟩
            have eb7 := k7 _ _ eb6 nb.1 nb.2.1
            have ef7 := k7 _ _ ef6 nf.1 nf.2.1
            have t7 : Tk H6 H7 := k7.tk d6
            obtain ⟨v2, hv2⟩ := getQ (xs := xb.eraseIdx r5.toNat) (i := r7.toNat) (by omega)
            refine ⟨lb, _, r7, r7.toNat, v2, rfl, rfl, eb7, by omega, by omega, seq_of r70 r71, hv2, ?_⟩
            obtain ⟨other, b2, h2, rfl, hb2⟩ := ms_of (fz6.tk t7) hv2
            have fz2' := (fz6.tk t7).erase r7.toNat
            rw [map_erase] at fz2'
            have tl8 := Tk.lst (o := HO.lst ((xb.eraseIdx r5.toNat).eraseIdx r7.toNat)) eb7
            have d8 : D.On (upd H7 lb (.lst ((xb.eraseIdx r5.toNat).eraseIdx r7.toNat))) (c + n + 5 * (n - m) + 1 + 1 + 1) := d7.put nb.1 nb.2.1 nb.2.2
            have k8 : Keep D H (upd H7 lb (.lst ((xb.eraseIdx r5.toNat).eraseIdx r7.toNat))) := (k6.trans k7).set nlb
            have ef8 : (upd H7 lb (.lst ((xb.eraseIdx r5.toNat).eraseIdx r7.toNat))) lf = some (.lst xf) := by
              rw [upd_ne nbf.symm]
              exact ef7
            have eb8 : (upd H7 lb (.lst ((xb.eraseIdx r5.toNat).eraseIdx r7.toNat))) lb = some (.lst ((xb.eraseIdx r5.toNat).eraseIdx r7.toNat)) := upd_same
            have lx2 : ((xb.eraseIdx r5.toNat).eraseIdx r7.toNat).length + 2 = m := by
              have := len_erase hv2
              omega
            have hb81 := tl8 _ _ (t7 _ _ hb6)
            have hb82 := tl8 _ _ hb2
            have fz8 := fz2'.tk tl8
            have fy8 := (fy6.tk t7).tk tl8
            generalize upd H7 lb (.lst ((xb.eraseIdx r5.toNat).eraseIdx r7.toNat)) = H8 at d8 k8 ef8 eb8 hb81 hb82 fz8 fy8 ⊢
            have g1 := F.good (List.mem_of_getElem? h1)
            have g2 := F.good (List.mem_of_mem_eraseIdx (List.mem_of_getElem? h2))
            have gl1 := g1.len
            have gl2 := g2.len
            -- blocks.append(tuple(sorted(one + other)))
            refine ⟨_, rfl, .inl ⟨rfl, _, .inl (.inl eb8)⟩, _, rfl, _, rfl, b1, b2, _, _, rfl, rfl, hb81, hb82, (by intro z; exact g1.ne (List.map_eq_nil_iff.mp z)), by rw [List.length_map, List.length_map]; omega, fun pc H9 s9 ec9 => ?_⟩
            rw [← List.map_append] at ec9
            refine ⟨pc, one ++ other, rfl, .inr ec9, by rw [List.length_append]; omega, fun ms ps H10 hperm hord nps s10 es => ⟨ps, _, rfl, es, fun pt H11 npt s11 et => ?_⟩⟩
            have s911 : Same H8 H11 := (s9.trans s10).trans s11
            have eb11 := s911 _ _ eb8
            have ef11 := s911 _ _ ef8
            refine ⟨lb, _, _, rfl, rfl, eb11, small1000 (by omega), ?_⟩
            obtain ⟨FM, FB⟩ := F.merge h1 h2 hperm hord
            have tl12 := Tk.lst (o := HO.lst ((xb.eraseIdx r5.toNat).eraseIdx r7.toNat ++ [V.ref pt])) eb11
            have t12 := (Same.tk s911).trans tl12
            have d12 : D.On (upd H11 lb (.lst ((xb.eraseIdx r5.toNat).eraseIdx r7.toNat ++ [V.ref pt]))) (c + n + 5 * (n - m) + 1 + 1 + 1) := (d8.same s911).put nb.1 nb.2.1 nb.2.2
            have k12 : Keep D H (upd H11 lb (.lst ((xb.eraseIdx r5.toNat).eraseIdx r7.toNat ++ [V.ref pt]))) := (k8.trans (Same.keep s911)).set nlb
            have ef12 : (upd H11 lb (.lst ((xb.eraseIdx r5.toNat).eraseIdx r7.toNat ++ [V.ref pt]))) lf = some (.lst xf) := by
              rw [upd_ne nbf.symm]
              exact ef11
            have eb12 : (upd H11 lb (.lst ((xb.eraseIdx r5.toNat).eraseIdx r7.toNat ++ [V.ref pt]))) lb = some (.lst ((xb.eraseIdx r5.toNat).eraseIdx r7.toNat ++ [V.ref pt])) := upd_same
            have het := tl12 _ _ et
            have fz12 : FzAll (upd H11 lb (.lst ((xb.eraseIdx r5.toNat).eraseIdx r7.toNat ++ [V.ref pt]))) ((xb.eraseIdx r5.toNat).eraseIdx r7.toNat ++ [V.ref pt]) (((bs.eraseIdx r5.toNat).eraseIdx r7.toNat ++ [ms]).map msD) := by
              rw [List.map_append]
              exact (fz8.tk t12).app (.one (fz_ms het))
            have fy12 := fy8.tk t12
            generalize upd H11 lb (.lst ((xb.eraseIdx r5.toNat).eraseIdx r7.toNat ++ [V.ref pt])) = H12 at d12 k12 ef12 eb12 het fz12 fy12 ⊢
            have lbs : ((bs.eraseIdx r5.toNat).eraseIdx r7.toNat ++ [ms]).length = m - 1 := by
              have a1 := len_erase h1
              have a2 := len_erase h2
              rw [List.length_append]
              show _ + 1 = m - 1
              omega
            refine ⟨_, rfl, D, c + n + 5 * (n - m) + 1 + 1 + 1, 4, rfl, d12, by omega, by decide, by decide, fun H13 r13 k13 d13 _ _ => ⟨_, _, rfl, rfl, _, rfl, ite2 (fun e13 => ?_) (fun e13 => ?_)⟩⟩
            · have eb13 := k13 _ _ eb12 nb.1 nb.2.1
              have ef13 := k13 _ _ ef12 nf.1 nf.2.1
              have t13 : Tk H12 H13 := k13.tk d12
              refine ⟨_, rfl, .inl ⟨rfl, _, .inl (.inl ef13)⟩, _, rfl, _, rfl, lb, _, _, V.ref pt, rfl, rfl, .inl eb13, atI_last _ _, lf, xf, _, rfl, rfl, ef13, ?_, ?_⟩
              · rw [fz2.len, List.length_map]
                exact small1000 (by omega)
              · have tl14 := Tk.lst (o := HO.lst (xf ++ [V.ref pt])) ef13
                refine ⟨m - 1, by omega, _, xf ++ [V.ref pt], _, fs ++ [ms], _, _, _, rfl, (k12.trans k13).set nlfH, lbs, by omega, by omega, (d13.put nf.1 nf.2.1 nf.2.2).mono (by omega), by rw [upd_ne nbf]; exact eb13, upd_same, (fz12.tk t13).tk tl14, ?_, FM.add (by simp) FB, by rw [List.length_append]; show fs.length + 1 + (m - 1) ≤ _; omega⟩
                rw [List.map_append]
                exact ((fy12.tk t13).tk tl14).app (.one (fz_ms (tl14 _ _ (t13 _ _ het))))
            · have eb13 := k13 _ _ eb12 nb.1 nb.2.1
              have ef13 := k13 _ _ ef12 nf.1 nf.2.1
              have t13 : Tk H12 H13 := k13.tk d12
              exact ⟨m - 1, by omega, _, xf, _, fs, _, _, _, rfl, k12.trans k13, lbs, by omega, by omega, d13.mono (by omega), eb13, ef13, fz12.tk t13, fy12.tk t13, FM, by omega⟩
          · have ef4 := k4 _ _ ef' nf.1 nf.2.1
            exact ⟨_, rfl, 8, rfl, -8, rfl, lf, xf, rfl, ef4, fin H4 k4 d4⟩
        · exact ⟨_, rfl, 8, rfl, -8, rfl, lf, xf, rfl, ef', fin H' Keep.rfl' (dp.mono (by omega))⟩
end
end My

namespace My
open PySem PySem.Spec PyProof.Rows L2
def sp_q_limits : Sp := fun vs H Q _ => ∃ (D : Dk) (c : Nat) (t mo : Int), vs = [.ref D.a, .int t, .int mo] ∧ D.On H c ∧ c < 2 ^ 39 ∧ 0 ≤ t ∧ 0 ≤ mo ∧
  ∀ H' v lo hi, Keep D H H' → D.On H' (c + 4) → Fz H' v (.tuple [.int lo, .int hi]) → 0 ≤ lo → lo ≤ hi → hi ≤ 10 ^ 12 → Q v H'
theorem fz_pair {H : Hp} {a : Addr} {x y : Int} (h : H a = some (.tup [.int x, .int y])) : Fz H (.ref a) (.tuple [.int x, .int y]) := .tup h (.cons (.int _) (.cons (.int _) .nil))
section
variable {P : Program} {w : World} {K : PySem.W.Frag} {mg : Str → Option Value} {base : Heap}
theorem ok_q_limits (T : Txt K mg) : FnOk P w K mg base CX0 2 T.a_q_limits T.d_q_limits p_q_limits sp_q_limits := by
  have G_q_next : FnOk P w K mg base CX0 1 T.a_q_next T.d_q_next p_q_next sp_q_next := ok_q_next T
  refine T.F_q_limits.ok sc_q_limits (fun vs H Q E h => ?_) (fun cdv A outer s H vs Q E hr h => ?_)
  · obtain ⟨D, c, t, mo, rfl, _⟩ := h
    rfl
  · obtain ⟨D, c, t0, mo, rfl, hD, hc, ht, hmo, q⟩ := h
    refine ⟨_, (pss_cons (ps_par (i := 1) (j := 3) rfl sc_q_limits.nd rfl rfl (by decide) rfl rfl (pa_cons (pe_callB (call_min2 rfl) (by rfl) T.m_min (by decide +kernel) (pa_cons (pv 1) (pa_cons (pe_op op_pow pe_int pe_int) pa_nil))) (pa_cons (pe_call G_q_next (hr.mono (by decide)) (by rfl) T.g_q_next T.F_q_next.kp T.b_q_next .nil pass0 (pa_cons (pv 0) (pa_cons pe_int pa_nil))) pa_nil)) (by rfl))
(pss_cons (ps_if (pt_cmpR op_eq (pv 3) pe_int (nomark _))
(pss_cons (ps_set (i := 4) sc_q_limits.nd rfl (.inl rfl) (pe_call G_q_next (hr.mono (by decide)) (by rfl) T.g_q_next T.F_q_next.kp T.b_q_next .nil pass0 (pa_cons (pv 0) (pa_cons (pe_op op_add (pe_callB (call_min2 rfl) (by rfl) T.m_min (by decide +kernel) (pa_cons (pv 2) (pa_cons (pe_op op_pow pe_int pe_int) pa_nil))) pe_int) pa_nil))))
(pss_one (ps_ret (pe_tupF (pa_cons (pv 4) (pa_cons (pe_callB (call_min2 rfl) (by rfl) T.m_min (by decide +kernel) (pa_cons (pe_op op_pow pe_int pe_int) (pa_cons (pe_op op_add (pv 4) (pe_call G_q_next (hr.mono (by decide)) (by rfl) T.g_q_next T.F_q_next.kp T.b_q_next .nil pass0 (pa_cons (pv 0) (pa_cons pe_int pa_nil)))) pa_nil))) pa_nil))))))
pss_nil)
(pss_cons (ps_par (i := 4) (j := 5) rfl sc_q_limits.nd rfl rfl (by decide) rfl rfl (pa_cons (pe_callB (call_max2 rfl) (by rfl) T.m_max (by decide +kernel) (pa_cons pe_int (pa_cons (pe_op op_sub (pv 1) (pe_call G_q_next (hr.mono (by decide)) (by rfl) T.g_q_next T.F_q_next.kp T.b_q_next .nil pass0 (pa_cons (pv 0) (pa_cons pe_int pa_nil)))) pa_nil))) (pa_cons (pe_callB (call_min2 rfl) (by rfl) T.m_min (by decide +kernel) (pa_cons (pe_op op_pow pe_int pe_int) (pa_cons (pe_op op_add (pv 1) (pe_call G_q_next (hr.mono (by decide)) (by rfl) T.g_q_next T.F_q_next.kp T.b_q_next .nil pass0 (pa_cons (pv 0) (pa_cons pe_int pa_nil)))) pa_nil))) pa_nil)) (by rfl))
(pss_one (ps_ret (pe_ix ix_F (pe_lstF (pa_cons (pe_tupF (pa_cons pe_int (pa_cons (pv 1) pa_nil))) (pa_cons (pe_tupF (pa_cons (pv 1) (pa_cons (pv 1) pa_nil))) (pa_cons (pe_tupF (pa_cons (pv 4) (pa_cons (pv 5) pa_nil))) (pa_cons (pe_tupF (pa_cons pe_int (pa_cons (pv 5) pa_nil))) (pa_cons (pe_tupF (pa_cons (pv 4) (pa_cons (pe_op op_pow pe_int pe_int) pa_nil))) pa_nil)))))) (pe_op op_sub (pv 3) pe_int) (fun _ _ => rfl))))))), ?_⟩
    refine ⟨_, rfl, _, _, rfl, rfl, ⟨by decide, by decide, by decide⟩, t0, (10 : Int) ^ 12, rfl, ?_⟩
    refine ⟨_, rfl, D, c, 6, rfl, hD, by omega, by decide, by decide, fun H1 way k1 d1 w0 w1 => ⟨_, _, rfl, ?_⟩⟩
    have hp : (10 : Int) ^ (12 : Int).toNat = 1000000000000 := by decide
    have hp2 : (10 : Int) ^ 12 = 1000000000000 := by decide
    generalize ht2 : (if (10 : Int) ^ 12 < t0 then (10 : Int) ^ 12 else t0) = t
    rw [hp2] at ht2
    have t1 : 0 ≤ t := by rw [← ht2]; split <;> omega
    have t2 : t ≤ 1000000000000 := by rw [← ht2]; split <;> omega
    refine ⟨_, rfl, rfl, _, rfl, ite2 (fun e => ?_) (fun e => ?_)⟩
    · refine ⟨_, rfl, _, rfl, _, _, rfl, rfl, ⟨by decide, by decide, by decide⟩, mo, (10 : Int) ^ 12, rfl, _, _, rfl, rfl, D, c + 1, _, rfl, d1, by omega, ?_, ?_, fun H2 lo k2 d2 l0 l1 => ?_⟩
      · rw [hp2]; split <;> omega
      · rw [hp2]; split <;> omega
      · have l2 : lo ≤ 1000000000000 := by
          rw [hp2] at l1
          split at l1 <;> omega
        refine ⟨_, rfl, _, _, rfl, rfl, ⟨by decide, by decide, by decide⟩, _, rfl, _, rfl, D, c + 2, 4, rfl, d2, by omega, by decide, by decide, fun H3 r k3 d3 r0 r1 => ⟨_, _, rfl, rfl, (10 : Int) ^ 12, lo + r, rfl, by simp, fun p H4 np s4 ep => ?_⟩⟩
        refine q H4 _ lo _ (((k1.trans k2).trans k3).trans (Same.keep s4)) ((d3.same s4).mono (by omega)) (fz_pair ep) l0 ?_ ?_
        · rw [hp2]; split <;> omega
        · rw [hp2]; split <;> omega
    · have hw : 1 ≤ way := by
        have : way ≠ 0 := fun z => e (decide_eq_true (by rw [z]))
        omega
      refine ⟨_, rfl, _, rfl, D, c + 1, 3, rfl, d1, by omega, by decide, by decide, fun H2 ra k2 d2 a0 a1 => ⟨_, _, rfl, rfl, 0, t - ra, rfl, ?_⟩⟩
      refine ⟨_, _, rfl, rfl, ⟨by decide, by decide, by decide⟩, _, rfl, _, rfl, D, c + 2, 3, rfl, d2, by omega, by decide, by decide, fun H3 rb k3 d3 b0 b1 => ⟨_, _, rfl, rfl, (10 : Int) ^ 12, t + rb, rfl, _, _, rfl, ?_⟩⟩
      generalize hlo : (if t - ra > 0 then t - ra else 0) = lo
      generalize hhi : (if t + rb < (10 : Int) ^ 12 then t + rb else (10 : Int) ^ 12) = hi
      rw [hp2] at hhi
      have lo0 : 0 ≤ lo := by rw [← hlo]; split <;> omega
      have lo1 : lo ≤ t := by rw [← hlo]; split <;> omega
      have hi0 : t ≤ hi := by rw [← hhi]; split <;> omega
      have hi1 : hi ≤ 1000000000000 := by rw [← hhi]; split <;> omega
      refine ⟨_, rfl, by simp, fun p1 H4 n1 s1 e1 => ?_⟩
      refine ⟨_, rfl, _, rfl, by simp, fun p2 H5 n2 s2 e2 => ?_⟩
      refine ⟨_, rfl, _, rfl, by simp, fun p3 H6 n3 s3 e3 => ?_⟩
      refine ⟨_, rfl, by simp, fun p4 H7 n4 s4 e4 => ?_⟩
      refine ⟨_, rfl, _, _, rfl, rfl, ⟨by decide, by decide, by decide⟩, by simp, fun p5 H8 n5 s5 e5 => ⟨by simp, fun p H9 np s9 ep => ?_⟩⟩
      have s59 := s5.trans s9
      have s49 := s4.trans s59
      have s39 := s3.trans s49
      have s29 := s2.trans s39
      have kk : Keep D H H9 := ((k1.trans k2).trans k3).trans (Same.keep (s1.trans s29))
      have dd : D.On H9 (c + 4) := (d3.same (s1.trans s29)).mono (by omega)
      have o1 := s29 _ _ e1
      have o2 := s39 _ _ e2
      have o3 := s49 _ _ e3
      have o4 := s59 _ _ e4
      have o5 := s9 _ _ e5
      have ew : way = 1 ∨ way = 2 ∨ way = 3 ∨ way = 4 ∨ way = 5 := by omega
      have hq : ∀ v lo hi, Fz H9 v (.tuple [.int lo, .int hi]) → 0 ≤ lo → lo ≤ hi → hi ≤ 1000000000000 → Q v H9 := fun v lo hi f x1 x2 x3 => q H9 v lo hi kk dd f x1 x2 (by rw [hp2]; exact x3)
      rcases ew with rfl | rfl | rfl | rfl | rfl
      · exact ⟨_, rfl, _, _, rfl, rfl, p, _, 0, _, rfl, rfl, .inl ep, at0, hq _ _ _ (fz_pair o1) (by decide) t1 t2⟩
      · exact ⟨_, rfl, _, _, rfl, rfl, p, _, 1, _, rfl, rfl, .inl ep, at1, hq _ _ _ (fz_pair o2) t1 (Int.le_refl _) t2⟩
      · exact ⟨_, rfl, _, _, rfl, rfl, p, _, 2, _, rfl, rfl, .inl ep, at2, hq _ _ _ (fz_pair o3) lo0 (by omega) hi1⟩
      · exact ⟨_, rfl, _, _, rfl, rfl, p, _, 3, _, rfl, rfl, .inl ep, atI_nat (j := 3) rfl, hq _ _ _ (fz_pair o4) (by decide) (by omega) hi1⟩
      · exact ⟨_, rfl, _, _, rfl, rfl, p, _, 4, _, rfl, rfl, .inl ep, atI_nat (j := 4) rfl, hq _ _ _ (fz_pair o5) lo0 (by omega) (by decide)⟩
end
end My

namespace My
open PySem PySem.Spec PyProof.Rows L2
abbrev Grp := List Int × Int × Int
def grpD (g : Grp) : PyData := .tuple [msD g.1, .int g.2.1, .int g.2.2]
def rowsD (rows : List Gs) : PyData := .tuple (rows.map gD)
def grpsD (grps : List Grp) : PyData := .tuple (grps.map grpD)
def sysD (rows : List Gs) (grps : List Grp) : PyData := .tuple [rowsD rows, grpsD grps]
structure GoodSys (great : Int) (items steps : Nat) (rows : List Gs) (grps : List Grp) : Prop where
  r1 : 1 ≤ rows.length
  r2 : rows.length ≤ items
  rg : ∀ g ∈ rows, GoodG great steps g
  lam : Lam rows.length (grps.map (·.1))
  lim : ∀ g ∈ grps, 0 ≤ g.2.1 ∧ g.2.1 ≤ g.2.2 ∧ g.2.2 ≤ 10 ^ 12
def sp_q_system : Sp := fun vs H Q _ => ∃ (D : Dk) (c items steps : Nat) (great : Int), vs = [.ref D.a, .int great, .int (items : Int), .int (steps : Int)] ∧ D.On H c ∧ c < 2 ^ 38 ∧ 1 ≤ great ∧ great ≤ 10 ^ 11 ∧ 1 ≤ items ∧ items ≤ 6 ∧ steps ≤ 5 ∧
  ∀ H' v rows grps, Keep D H H' → D.On H' (c + 1000) → Fz H' v (sysD rows grps) → GoodSys great items steps rows grps → Q v H'
theorem sum_bd : ∀ (l : List Int) (B : Int), (∀ x ∈ l, 0 ≤ x ∧ x ≤ B) → 0 ≤ l.sum ∧ l.sum ≤ (l.length : Int) * B
  | [], B, _ => ⟨by simp, by simp⟩
  | x :: r, B, h => by
    have h1 := h x List.mem_cons_self
    have h2 := sum_bd r B fun y hy => h y (List.mem_cons_of_mem _ hy)
    rw [List.sum_cons, List.length_cons]
    have e : ((r.length + 1 : Nat) : Int) * B = (r.length : Int) * B + B := by
      rw [Int.natCast_add, Int.add_mul]
      simp
    rw [e]
    omega
theorem capG_bd {great : Int} {steps : Nat} {g : Gs} (h : GoodG great steps g) (hs : steps ≤ 5) (hg : great ≤ 10 ^ 11) : 0 ≤ capG g ∧ capG g ≤ 500000000000 := by
  have hp : (10 : Int) ^ 11 = 100000000000 := by decide
  rw [hp] at hg
  have := sum_bd (g.map (·.1)) 100000000000 fun x hx => by
    rw [List.mem_map] at hx
    obtain ⟨p, hp, rfl⟩ := hx
    have := h.cnt p hp
    omega
  have l := h.len
  rw [List.length_map] at this
  unfold capG
  omega
theorem row_of {H : Hp} {xs : List V} {rows : List Gs} {i : Nat} {x : V} (h : FzAll H xs (rows.map gD)) (e : xs[i]? = some x) : ∃ g, rows[i]? = some g ∧ Fz H x (gD g) := by
  obtain ⟨d, e1, k⟩ := h.get e
  rw [List.getElem?_map] at e1
  cases e2 : rows[i]? with
  | none => rw [e2] at e1; cases e1
  | some g =>
    rw [e2] at e1
    cases e1
    exact ⟨g, rfl, k⟩
def capAt (rows : List Gs) (k : Int) : Int := capG (rows.getD k.toNat [])
def unitAt (us : List Int) (k : Int) : Int := us.getD k.toNat 0
theorem getD_of {α : Type} {l : List α} {i : Nat} {x d : α} (h : l[i]? = some x) : l.getD i d = x := by
  rw [List.getD_eq_getElem?_getD, h]
  rfl
section
variable {P : Program} {w : World} {K : PySem.W.Frag} {mg : Str → Option Value} {base : Heap}
theorem ok_q_system (T : Txt K mg) : FnOk P w K mg base CX0 3 T.a_q_system T.d_q_system p_q_system sp_q_system := by
  have G_q_next : FnOk P w K mg base CX0 1 T.a_q_next T.d_q_next p_q_next sp_q_next := ok_q_next T
  have G_q_gains : FnOk P w K mg base CX0 2 T.a_q_gains T.d_q_gains p_q_gains sp_q_gains := ok_q_gains T
  have G_q_capacity : FnOk P w K mg base CX0 1 T.a_q_capacity T.d_q_capacity p_q_capacity sp_cap := ok_q_capacity T
  have G_q_family : FnOk P w K mg base CX0 2 T.a_q_family T.d_q_family p_q_family sp_q_family := ok_q_family T
  have G_q_limits : FnOk P w K mg base CX0 2 T.a_q_limits T.d_q_limits p_q_limits sp_q_limits := ok_q_limits T
  refine T.F_q_system.ok sc_q_system (fun vs H Q E h => ?_) (fun cdv A outer s H vs Q E hr h => ?_)
  · obtain ⟨D, c, items, steps, great, rfl, _⟩ := h
    rfl
  · obtain ⟨D, c, items, steps, great, rfl, hD, hc, hg1, hg2, hi1, hi2, hst, q⟩ := h
    refine ⟨_, (pss_cons (ps_set (i := 4) sc_q_system.nd rfl (.inr rfl) (pe_callTy call_tupF (by rfl) T.m_tuple (by decide +kernel) (pa_cons (pe_lc (own := [("_law_k", 11)]) (g := (gName 11)) (tt := tYes) rfl sc_q_system.nd (pi_range1 (by rfl) T.m_range (pa_cons (pe_op op_add pe_int (pe_call G_q_next (hr.mono (by decide)) (by rfl) T.g_q_next T.F_q_next.kp T.b_q_next .nil pass0 (pa_cons (pv 0) (pa_cons (pv 2) pa_nil)))) pa_nil)) (blkOk_by (own := [("_law_k", 11)]) (N := n_q_system) (sc := defScope s_q_system) (by decide +kernel)) (fun _ _ _ _ _ => (pg_name (i := 11) sc_q_system.nd rfl (.inl rfl))) (fun _ _ _ _ _ => pts_nil) (fun _ _ _ _ _ => (pe_call G_q_gains (hr.mono (by decide)) (by rfl) T.g_q_gains T.F_q_gains.kp T.b_q_gains .nil pass0 (pa_cons (pv 0) (pa_cons (pv 1) (pa_cons (pv 3) pa_nil)))))) pa_nil)))
(pss_cons (ps_asg (pe_tupF (pa_cons (pe_lc (own := [("_law_gains_here", 12)]) (g := (gName 12)) (tt := tYes) rfl sc_q_system.nd (pi_tup (pv 4)) (blkOk_by (own := [("_law_gains_here", 12)]) (N := n_q_system) (sc := defScope s_q_system) (by decide +kernel)) (fun _ _ _ _ _ => (pg_name (i := 12) sc_q_system.nd rfl (.inl rfl))) (fun _ _ _ _ _ => pts_nil) (fun _ _ _ _ _ => (pe_call G_q_next (hr.mono (by decide)) (by rfl) T.g_q_next T.F_q_next.kp T.b_q_next .nil pass0 (pa_cons (pv 0) (pa_cons (pe_op op_add (pe_call G_q_capacity (hr.mono (by decide)) (by rfl) T.g_q_capacity T.F_q_capacity.kp T.b_q_capacity .nil pass0 (pa_cons (pv 12) pa_nil)) pe_int) pa_nil))))) (pa_cons (pe_lstF pa_nil) pa_nil))) (pg_tup (by rfl) (pgs_cons (pg_name (i := 5) sc_q_system.nd rfl (.inr rfl)) (pgs_cons (pg_name (i := 6) sc_q_system.nd rfl (.inl rfl)) pgs_nil))))
(pss_cons (ps_for PassesOwn.never rfl (pi_list (pe_call G_q_family (hr.mono (by decide)) (by rfl) T.g_q_family T.F_q_family.kp T.b_q_family .nil pass0 (pa_cons (pv 0) (pa_cons (pe_callB call_lenF (by rfl) T.m_len PySem.boot_len (pa_cons (pv 4) pa_nil)) pa_nil)))) (pg_name (i := 7) sc_q_system.nd rfl (.inl rfl))
(pss_cons (ps_set (i := 8) sc_q_system.nd rfl (.inl rfl) (pe_callB (cr_sum rfl) (by rfl) T.m_sum (by decide +kernel) (pa_cons (pe_lc (own := [("_law_k", 11)]) (g := (gName 11)) (tt := tYes) rfl sc_q_system.nd (pi_tup (pv 7)) (blkOk_by (own := [("_law_k", 11)]) (N := n_q_system) (sc := defScope s_q_system) (by decide +kernel)) (fun _ _ _ _ _ => (pg_name (i := 11) sc_q_system.nd rfl (.inl rfl))) (fun _ _ _ _ _ => pts_nil) (fun _ _ _ _ _ => (pe_call G_q_capacity (hr.mono (by decide)) (by rfl) T.g_q_capacity T.F_q_capacity.kp T.b_q_capacity .nil pass0 (pa_cons (pe_ix ix_F (pv 4) (pv 11) (fun _ _ => rfl)) pa_nil)))) pa_nil)))
(pss_cons (ps_asg (pe_call G_q_limits (hr.mono (by decide)) (by rfl) T.g_q_limits T.F_q_limits.kp T.b_q_limits .nil pass0 (pa_cons (pv 0) (pa_cons (pe_callB (cr_sum rfl) (by rfl) T.m_sum (by decide +kernel) (pa_cons (pe_lc (own := [("_law_k", 11)]) (g := (gName 11)) (tt := tYes) rfl sc_q_system.nd (pi_tup (pv 7)) (blkOk_by (own := [("_law_k", 11)]) (N := n_q_system) (sc := defScope s_q_system) (by decide +kernel)) (fun _ _ _ _ _ => (pg_name (i := 11) sc_q_system.nd rfl (.inl rfl))) (fun _ _ _ _ _ => pts_nil) (fun _ _ _ _ _ => (pe_ix ix_F (pv 5) (pv 11) (fun _ _ => rfl)))) pa_nil)) (pa_cons (pv 8) pa_nil)))) (pg_tup (by rfl) (pgs_cons (pg_name (i := 9) sc_q_system.nd rfl (.inl rfl)) (pgs_cons (pg_name (i := 10) sc_q_system.nd rfl (.inl rfl)) pgs_nil))))
(pss_one (ps_expr (pe_bm PySem.F.plainAttrs_list PySem.F.slot_list_append PySem.F.type_list_append mt_append (pv 6) (pa_cons (pe_tupF (pa_cons (pv 7) (pa_cons (pv 9) (pa_cons (pv 10) pa_nil)))) pa_nil)))))))
(pss_one (ps_ret (pe_tupF (pa_cons (pv 4) (pa_cons (pe_callTy call_tupF (by rfl) T.m_tuple (by decide +kernel) (pa_cons (pv 6) pa_nil)) pa_nil)))))))), ?_⟩
    have hp11 : (10 : Int) ^ 11 = 100000000000 := by decide
    have hp12 : (10 : Int) ^ 12 = 1000000000000 := by decide
    have hg3 : great ≤ 100000000000 := by rw [← hp11]; exact hg2
    -- the rows
    refine ⟨_, rfl, _, rfl, D, c, (items : Int), rfl, hD, by omega, by omega, by omega, fun H1 r1 k1 d1 r10 r11 => ⟨_, _, rfl, rfl, 1 + r1, rfl, by omega, by omega, ?_⟩⟩
    obtain ⟨N, hN⟩ : ∃ N : Nat, 1 + r1 = N := ⟨(1 + r1).toNat, by omega⟩
    rw [hN, Int.toNat_natCast]
    refine fun lr nlr => lc_range (lo := 0) (n := N) (fun i H' => Keep D H H' ∧ D.On H' (c + 1 + 12 * i) ∧ ∃ acc rows, H' lr = some (.lst acc) ∧ FzAll H' acc (rows.map gD) ∧ rows.length = i ∧ ∀ g ∈ rows, GoodG great steps g)
      ⟨k1.trans (Keep.new nlr), (d1.new nlr).mono (by omega), [], [], upd_same, .nil, rfl, (by intro g hg; cases hg)⟩ (fun i H' hi hp => ?_) (fun H2 hp => ?_)
    · obtain ⟨kp, dp, acc, rows, er, fz, hl, hg⟩ := hp
      have nr := d1.at_ne nlr
      have nlrH : H lr = none := k1.free d1 nlr
      refine ⟨rfl, _, rfl, _, rfl, _, rfl, D, c + 1 + 12 * i, steps, great, rfl, dp, by omega, hg1, by omega, hst, fun H3 v g k3 d3 fv gg => ⟨acc, k3 _ _ er nr.1 nr.2.1, ?_, ?_⟩⟩
      · rw [fz.len, List.length_map, hl]
        exact small1000 (by omega)
      · have tl := Tk.lst (o := HO.lst (acc ++ [v])) (k3 _ _ er nr.1 nr.2.1)
        refine ⟨(kp.trans k3).set nlrH, (d3.put nr.1 nr.2.1 nr.2.2).mono (by omega), _, rows ++ [g], upd_same, ?_, by rw [List.length_append, hl]; rfl, ?_⟩
        · rw [List.map_append]
          exact ((fz.tk (k3.tk dp)).tk tl).app (.one (fv.tk tl))
        · intro g' hg'
          rcases List.mem_append.mp hg' with z | z
          · exact hg g' z
          · rw [List.mem_singleton] at z
            subst z
            exact gg
    · obtain ⟨kp, dp, xr, rows, er, fz, hl, hg⟩ := hp
      refine ⟨lr, xr, rfl, er, fun pr H3 npr s3 epr => ?_⟩
      have d3 := dp.same s3
      have k3 := kp.trans (Same.keep s3)
      have fz3 := fz.tk (Same.tk s3)
      have lxr : xr.length = N := by rw [fz.len, List.length_map, hl]
      clear fz er kp dp
      -- the plan
      refine ⟨_, rfl, pr, rfl, ⟨_, .inl (.inl epr)⟩, fun lp nlp => lc_tup (K := K) (a := pr) (xs := xr) (fun i H' => Keep D H H' ∧ Keep D H3 H' ∧ D.On H' (c + 73 + i) ∧ ∃ us : List Int, H' lp = some (.lst (us.map V.int)) ∧ us.length = i ∧ ∀ x ∈ us, 0 ≤ x ∧ x ≤ 500000000000)
        ⟨k3.set (k3.free d3 nlp), Keep.new nlp, (d3.new nlp).mono (by omega), [], upd_same, rfl, (by intro x hx; cases hx)⟩ (fun i H' _ h => .inl (.inl ((h.2.1.tk d3) _ _ epr))) (fun i x H' hx hp => ?_) (fun H4 hp => ?_)⟩
      · obtain ⟨kp, kp3, dp, us, eu, hu, hb⟩ := hp
        have np := d3.at_ne nlp
        have hiN : i < N := by
          have := (List.getElem?_eq_some_iff.mp hx).1
          omega
        obtain ⟨g, hgi, hgx⟩ := row_of (fz3.tk (kp3.tk d3)) hx
        have gg := hg g (List.mem_of_getElem? hgi)
        have hcap := capG_bd gg hst hg2
        have hgl := gg.len
        refine ⟨rfl, _, rfl, _, rfl, x, g, rfl, hgx, by omega, fun H5 s5 => ⟨_, _, rfl, rfl, D, c + 73 + i, capG g + 1, rfl, dp.same s5, by omega, by omega, by omega, fun H6 r6 k6 d6 r60 r61 => ⟨us.map V.int, k6 _ _ (s5 _ _ eu) np.1 np.2.1, ?_, ?_⟩⟩⟩
        · rw [List.length_map, hu]
          exact small1000 (by omega)
        · have k56 := (Same.keep s5).trans k6
          refine ⟨(kp.trans k56).set (k3.free d3 nlp), fun b x e n1 n2 => ?_, (d6.put np.1 np.2.1 np.2.2).mono (by omega), us ++ [r6], ?_, by rw [List.length_append, hu]; rfl, ?_⟩
          · rw [upd_ne (ne_of_none e nlp)]
            exact k56 _ _ (kp3 _ _ e n1 n2) n1 n2
          · rw [upd_same, List.map_append]
            rfl
          · intro y hy
            rcases List.mem_append.mp hy with z | z
            · exact hb y z
            · rw [List.mem_singleton] at z
              subst z
              exact ⟨r60, by omega⟩
      · obtain ⟨kp, kp3, dp, us, eu, hu, hb⟩ := hp
        rw [lxr] at dp hu
        have np := d3.at_ne nlp
        have epr4 := (kp3.tk d3) _ _ epr
        have fz4 := fz3.tk (kp3.tk d3)
        refine ⟨by simp, fun lg H5 nlg s5 eg => ⟨by simp, fun pt H6 npt s6 et => ⟨pt, _, rfl, .inl (.inl et), rfl, _, _, rfl, _, _, rfl, rfl, ?_⟩⟩⟩
        have s46 := s5.trans s6
        have d6 := dp.same s46
        have ng := dp.at_ne nlg
        have nlgH : H lg = none := kp.free dp nlg
        have ngp : lg ≠ lp := (ne_of_none eu nlg).symm
        -- the family
        refine ⟨_, rfl, _, rfl, pr, xr, rfl, .inr (s46 _ _ epr4), D, c + 73 + N, N, (by rw [lxr]; rfl), d6, by omega, by omega, by omega, fun H7 pf xf fs npf k7 d7 ef nf1 nf2 nf3 fzf hlam => ⟨pf, rfl, ⟨_, .inl (.inl ef)⟩, ?_⟩⟩
        have eg7 := k7 _ _ (s6 _ _ eg) ng.1 ng.2.1
        have ep7 := k7 _ _ (s46 _ _ eu) np.1 np.2.1
        have t67 : Tk H4 H7 := (Same.tk s46).trans (k7.tk d6)
        have k7H : Keep D H H7 := (kp.trans (Same.keep s46)).trans k7
        have nfg : pf ≠ lg := (ne_of_none (s6 _ _ eg) npf).symm
        have nfp : pf ≠ lp := (ne_of_none (s46 _ _ eu) npf).symm
        have npfH : H pf = none := (kp.trans (Same.keep s46)).free d6 npf
        have epr7 := t67 _ _ epr4
        have fz7 := fz4.tk t67
        have lfs := hlam.len
        have lxf : xf.length = fs.length := by rw [fzf.len, List.length_map]
        refine for_list (K := K) (a := pf) (xs := xf) (fun i σ H' => ∃ y7 y8 y9 y10 xg grps, σ = [some (.ref D.a), some (.int great), some (.int items), some (.int steps), some (.ref pr), some (.ref lp), some (.ref lg), y7, y8, y9, y10, none, none] ∧
            Keep D H H' ∧ D.On H' (c + 139 + 4 * i) ∧ Tk H7 H' ∧ H' pf = some (.lst xf) ∧ H' lp = some (.lst (us.map V.int)) ∧ H' lg = some (.lst xg) ∧ FzAll H' xg (grps.map grpD) ∧ grps.map (·.1) = fs.take i ∧ ∀ g ∈ grps, 0 ≤ g.2.1 ∧ g.2.1 ≤ g.2.2 ∧ g.2.2 ≤ 10 ^ 12)
          ⟨_, _, _, _, [], [], rfl, k7H, d7.mono (by omega), Tk.refl, ef, ep7, eg7, .nil, rfl, (by intro g hg; cases hg)⟩ (fun i σ H' hi hp => ?_) (fun i x σ H' hx hp => ?_) (fun σ H' hp => ?_)
        · obtain ⟨_, _, _, _, _, _, _, _, _, _, h, _⟩ := hp
          exact .inl (.inl h)
        · obtain ⟨y7, y8, y9, y10, xg, grps, rfl, kp, dp, tk, ef', ep', eg', fzg, hfs, hlm⟩ := hp
          obtain ⟨f, b, hfi, rfl, hbt⟩ := ms_of (fzf.tk tk) hx
          have gm := hlam.good f (List.mem_of_getElem? hfi)
          have hfl := gm.len
          have hif : i < fs.length := (List.getElem?_eq_some_iff.mp hfi).1
          have hi8 : i < 8 := by omega
          have lgr : grps.length = i := by
            have := congrArg List.length hfs
            rw [List.length_map, List.length_take] at this
            omega
          -- what the members have
          refine ⟨_, rfl, b, rfl, ⟨_, .inl (.inl hbt)⟩, fun lm nlm => lc_tup (K := K) (a := b) (xs := f.map V.int) (fun j H'' => Same H' H'' ∧ H'' lm = some (.lst (((f.take j).map (capAt rows)).map V.int)))
            ⟨same_new nlm, upd_same⟩ (fun j H'' _ h => .inl (.inl (h.1 _ _ hbt))) (fun j x H'' hxj hp => ?_) (fun H8 hp => ?_)⟩
          · obtain ⟨sm, em⟩ := hp
            rw [List.getElem?_map] at hxj
            cases e : f[j]? with
            | none => rw [e] at hxj; cases hxj
            | some k =>
              rw [e] at hxj
              cases hxj
              have hk := gm.rg k (List.mem_of_getElem? e)
              obtain ⟨v, hv1, hv2⟩ := at_of (xs := xr) (r := k) lxr hk.1 (by omega)
              obtain ⟨g, hg1', hg2'⟩ := row_of ((fz7.tk tk).tk (Same.tk sm)) hv2
              have gg := hg g (List.mem_of_getElem? hg1')
              have hgl := gg.len
              refine ⟨rfl, _, rfl, _, rfl, pr, xr, k, v, rfl, rfl, .inr (sm _ _ (tk _ _ epr7)), hv1, v, g, rfl, hg2', by omega, fun H9 s9 => ⟨_, s9 _ _ em, ?_, same_set (sm.trans s9) nlm, ?_⟩⟩
              · rw [List.length_map, List.length_map]
                exact small1000 (by have := take_len (i := j) hfl; omega)
              · rw [upd_same, map_take_next e, List.map_append]
                have : capAt rows k = capG g := by
                  unfold capAt
                  rw [getD_of hg1']
                rw [this]
                rfl
          · obtain ⟨sm, em⟩ := hp
            rw [List.length_map, List.take_length] at em
            refine ⟨lm, _, rfl, .inl (.inl em), ?_⟩
            have capb : ∀ x ∈ f.map (capAt rows), 0 ≤ x ∧ x ≤ 500000000000 := by
              intro x hx'
              rw [List.mem_map] at hx'
              obtain ⟨k, hk, rfl⟩ := hx'
              have hkr := gm.rg k hk
              have hkl : k.toNat < rows.length := by omega
              have e := getD_of (d := ([] : Gs)) (List.getElem?_eq_getElem hkl)
              unfold capAt
              rw [e]
              exact capG_bd (hg _ (List.getElem_mem hkl)) hst hg2
            have sumb := sum_bd _ _ capb
            have d8 := dp.same sm
            -- the units that the plan gives them
            refine ⟨_, rfl, _, rfl, b, rfl, ⟨_, .inl (.inl (sm _ _ hbt))⟩, fun lu nlu => lc_tup (K := K) (a := b) (xs := f.map V.int) (fun j H'' => Same H8 H'' ∧ H'' lu = some (.lst (((f.take j).map (unitAt us)).map V.int)))
              ⟨same_new nlu, upd_same⟩ (fun j H'' _ h => .inl (.inl (h.1 _ _ (sm _ _ hbt)))) (fun j x H'' hxj hp => ?_) (fun H9 hp => ?_)⟩
            · obtain ⟨sm2, em2⟩ := hp
              rw [List.getElem?_map] at hxj
              cases e : f[j]? with
              | none => rw [e] at hxj; cases hxj
              | some k =>
                rw [e] at hxj
                cases hxj
                have hk := gm.rg k (List.mem_of_getElem? e)
                obtain ⟨v, hv1, hv2⟩ := at_of (xs := us.map V.int) (r := k) (n := N) (by rw [List.length_map, hu]) hk.1 (by omega)
                rw [List.getElem?_map] at hv2
                cases e2 : us[k.toNat]? with
                | none => rw [e2] at hv2; cases hv2
                | some u =>
                  rw [e2] at hv2
                  cases hv2
                  refine ⟨rfl, _, rfl, _, rfl, lp, _, k, _, rfl, rfl, .inl (sm2 _ _ (sm _ _ ep')), hv1, _, em2, ?_, same_set sm2 nlu, ?_⟩
                  · rw [List.length_map, List.length_map]
                    exact small1000 (by have := take_len (i := j) hfl; omega)
                  · rw [upd_same, map_take_next e, List.map_append]
                    have : unitAt us k = u := by
                      unfold unitAt
                      rw [getD_of e2]
                    rw [this]
                    rfl
            · obtain ⟨sm2, em2⟩ := hp
              rw [List.length_map, List.take_length] at em2
              have unb : ∀ x ∈ f.map (unitAt us), 0 ≤ x ∧ x ≤ 500000000000 := by
                intro x hx'
                rw [List.mem_map] at hx'
                obtain ⟨k, hk, rfl⟩ := hx'
                have hkr := gm.rg k hk
                have hkl : k.toNat < us.length := by omega
                have e := getD_of (d := (0 : Int)) (List.getElem?_eq_getElem hkl)
                unfold unitAt
                rw [e]
                exact hb _ (List.getElem_mem hkl)
              have sumu := sum_bd _ _ unb
              have d9 := d8.same sm2
              have s79 := sm.trans sm2
              refine ⟨lu, _, rfl, .inl (.inl em2), _, rfl, D, c + 139 + 4 * i, _, _, rfl, d9, by omega, sumu.1, sumb.1, fun H10 v lo hi k10 d10 fv l0 l1 l2 => ?_⟩
              obtain ⟨pa, ya, rfl, ea, fa⟩ := fv.tuple
              have fa' : FzAll H10 ya ([lo, hi].map PyData.int) := fa
              rw [fa'.ints] at ea
              refine ⟨pa, _, rfl, .inl (.inl ea), rfl, _, _, rfl, _, _, rfl, rfl, ?_⟩
              have eg10 := k10 _ _ (s79 _ _ eg') ng.1 ng.2.1
              refine ⟨_, rfl, .inl ⟨rfl, _, .inl (.inl eg10)⟩, _, rfl, _, rfl, _, rfl, by simp, fun pt2 H11 npt2 s11 et2 => ?_⟩
              have eg11 := s11 _ _ eg10
              have t11 : Tk H' H11 := ((Same.tk s79).trans (k10.tk d9)).trans (Same.tk s11)
              refine ⟨lg, xg, _, rfl, rfl, eg11, ?_, ?_⟩
              · rw [fzg.len, List.length_map, lgr]
                exact small1000 (by omega)
              · have tl := Tk.lst (o := HO.lst (xg ++ [V.ref pt2])) eg11
                have k11 : Keep D H' H11 := ((Same.keep s79).trans k10).trans (Same.keep s11)
                refine ⟨_, _, _, _, xg ++ [V.ref pt2], grps ++ [(f, lo, hi)], rfl, (kp.trans k11).set nlgH, ((d10.same s11).put ng.1 ng.2.1 ng.2.2).mono (by omega), tk.trans (t11.trans tl), ?_, ?_, upd_same, ?_, ?_, ?_⟩
                · rw [upd_ne nfg]
                  exact k11 _ _ ef' nf1 nf2
                · rw [upd_ne ngp.symm]
                  exact k11 _ _ ep' np.1 np.2.1
                · rw [List.map_append]
                  refine ((fzg.tk t11).tk tl).app (.one (.tup (tl _ _ et2) (.cons (fz_ms (tl _ _ (t11 _ _ hbt))) (.cons (.int _) (.cons (.int _) .nil)))))
                · rw [List.map_append, hfs, List.take_add_one, hfi]
                  rfl
                · intro g hgm
                  rcases List.mem_append.mp hgm with z | z
                  · exact hlm g z
                  · rw [List.mem_singleton] at z
                    subst z
                    exact ⟨l0, l1, l2⟩
        · obtain ⟨y7, y8, y9, y10, xg, grps, rfl, kp, dp, tk, ef', ep', eg', fzg, hfs, hlm⟩ := hp
          rw [lxf] at hfs dp
          rw [List.take_length] at hfs
          refine ⟨_, rfl, _, rfl, lg, xg, rfl, eg', fun p1 H8 n1 s8 e1 => ⟨by simp, fun p2 H9 n2 s9 e2 => ?_⟩⟩
          have s89 := s8.trans s9
          refine q H9 _ rows grps (kp.trans (Same.keep s89)) ((dp.same s89).mono (by omega)) (.tup e2 (.cons (.tup (s89 _ _ (tk _ _ epr7)) ((fz7.tk tk).tk (Same.tk s89))) (.cons (.tup (s9 _ _ e1) (fzg.tk (Same.tk s89))) .nil))) ⟨?_, ?_, hg, ?_, hlm⟩
          · omega
          · omega
          · rw [hfs, hl]
            exact hlam
end
end My

namespace My
open PySem PySem.Spec PyProof.Rows L2
def btw (d : PyData) (lo hi : Int) : Bool := match d with
  | .int i => decide (lo ≤ i ∧ i ≤ hi)
  | _ => false
def sp_is_between : Sp := fun vs H Q _ => ∃ (D : Dk) (v : V) (d : PyData) (lo hi : Int), vs = [v, .int lo, .int hi] ∧ Hd D H v d ∧ Q (.bl (btw d lo hi)) H
theorem isi_int {d : PyData} (h1 : isiD "int" d = true) (h2 : isiD "bool" d = false) : ∃ i, d = .int i := by
  cases d with
  | int i => exact ⟨i, rfl⟩
  | bool b => simp [isiD] at h2
  | none => simp [isiD] at h1
  | str _ => simp [isiD] at h1
  | list _ => simp [isiD] at h1
  | tuple _ => simp [isiD] at h1
  | dict _ => simp [isiD] at h1
theorem btw_of_not {d : PyData} {lo hi : Int} (h : ¬ (isiD "int" d = true ∧ isiD "bool" d = false)) : btw d lo hi = false := by
  cases d with
  | int i => exact absurd ⟨by simp [isiD], by simp [isiD]⟩ h
  | _ => rfl
theorem Hd.intE {D : Dk} {H : Hp} {v : V} {i : Int} (h : Hd D H v (.int i)) : v = .int i := by
  cases h
  rfl
section
variable {P : Program} {w : World} {K : PySem.W.Frag} {mg : Str → Option Value} {base : Heap}
theorem ok_is_between (T : Txt K mg) : FnOk P w K mg base CX0 1 T.a_is_between T.d_is_between p_is_between sp_is_between := by
  refine T.F_is_between.ok sc_is_between (fun vs H Q E h => ?_) (fun cdv A outer s H vs Q E hr h => ?_)
  · obtain ⟨D, v, d, lo, hi, rfl, _⟩ := h
    rfl
  · obtain ⟨D, v, d, lo, hi, rfl, hv, q⟩ := h
    refine ⟨_, (pss_cons (ps_if (PW.pt (pw_or (pt_not (pt_val (pe_callB (call_isiF D) (by rfl) T.m_isinstance (by decide +kernel) (pa_cons (pv 0) (pa_cons (pe_bltn (v := .ty "int") (by rfl) T.m_int (by decide +kernel) rfl) pa_nil))))) (pw_or1 (pt_val (pe_callB (call_isiF D) (by rfl) T.m_isinstance (by decide +kernel) (pa_cons (pv 0) (pa_cons (pe_bltn (v := .ty "bool") (by rfl) T.m_bool (by decide +kernel) rfl) pa_nil)))))))
(pss_one (ps_ret pe_bl))
pss_nil)
(pss_one (ps_ret (pe_chain op_le op_le (pv 1) (pv 0) (pv 2))))), ?_⟩
    refine ⟨_, rfl, v, "int", d, rfl, (by decide), hv, _, rfl, ?_⟩
    cases e1 : isiD "int" d with
    | false =>
      refine iteT (iteT ?_)
      rw [btw_of_not (by rw [e1]; simp)] at q
      exact q
    | true =>
      refine iteF ⟨_, rfl, v, "bool", d, rfl, (by decide), hv, _, rfl, ?_⟩
      cases e2 : isiD "bool" d with
      | true =>
        refine iteT ?_
        rw [btw_of_not (by rw [e2]; simp)] at q
        exact q
      | false =>
        refine iteF ?_
        obtain ⟨i, rfl⟩ := isi_int e1 e2
        obtain rfl := hv.intE
        refine ⟨_, rfl, _, rfl, _, _, rfl, rfl, _, rfl, ite2 (fun c => ⟨_, rfl, _, _, rfl, rfl, ?_⟩) (fun c => ?_)⟩
        · have c' := of_decide_eq_true c
          have : btw (.int i) lo hi = decide (i ≤ hi) := by simp [btw, c']
          rw [this] at q
          exact q
        · have c' : ¬ lo ≤ i := fun z => c (decide_eq_true z)
          have : btw (.int i) lo hi = false := by simp [btw, c']
          rw [this] at q
          exact q
/-- what the units gain -/
def worthG : Gs → Int → Int
  | [], _ => 0
  | (n, g) :: r, u => (if u < n then u else n) * g + worthG r (u - (if u < n then u else n))
def sp_gain_of_first : Sp := fun vs H Q _ => ∃ (v : V) (g : Gs) (u : Int), vs = [v, .int u] ∧ Fz H v (gD g) ∧ g.length ≤ 900 ∧ (∀ p ∈ g, 0 ≤ p.1 ∧ p.1 < 2 ^ 60) ∧ 0 ≤ u ∧ (∀ H', Same H H' → Q (.int (worthG g u)) H')
theorem worth_step {p : Int × Int} {r : Gs} {u : Int} : worthG (p :: r) u = (if u < p.1 then u else p.1) * p.2 + worthG r (u - (if u < p.1 then u else p.1)) := rfl
theorem drop_next {α : Type} {g : List α} {i : Nat} {p : α} (e : g[i]? = some p) : g.drop i = p :: g.drop (i + 1) := by
  obtain ⟨h, e'⟩ := List.getElem?_eq_some_iff.mp e
  rw [List.drop_eq_getElem_cons h, e']
theorem ok_gain_of_first (T : Txt K mg) : FnOk P w K mg base CX0 1 T.a_gain_of_first T.d_gain_of_first p_gain_of_first sp_gain_of_first := by
  refine T.F_gain_of_first.ok sc_gain_of_first (fun vs H Q E h => ?_) (fun cdv A outer s H vs Q E hr h => ?_)
  · obtain ⟨v, g, u, rfl, _⟩ := h
    rfl
  · obtain ⟨v, g, u, rfl, hv, hl, hg, hu, q⟩ := h
    obtain ⟨a, xs, rfl, ha, hx⟩ := hv.tuple
    refine ⟨_, (pss_cons (ps_set (i := 2) sc_gain_of_first.nd rfl (.inl rfl) pe_int)
(pss_cons (ps_set (i := 3) sc_gain_of_first.nd rfl (.inl rfl) (pv 1))
(pss_cons (ps_for PassesOwn.never rfl (pi_tup (pv 0)) (pg_tup (by rfl) (pgs_cons (pg_name (i := 4) sc_gain_of_first.nd rfl (.inl rfl)) (pgs_cons (pg_name (i := 5) sc_gain_of_first.nd rfl (.inl rfl)) pgs_nil)))
(pss_cons (ps_set (i := 6) sc_gain_of_first.nd rfl (.inl rfl) (pe_callB (call_min2 rfl) (by rfl) T.m_min (by decide +kernel) (pa_cons (pv 4) (pa_cons (pv 3) pa_nil))))
(pss_cons (ps_aug (i := 2) sc_gain_of_first.nd rfl (.inl rfl) (pe_op op_mul (pv 6) (pv 5)) ip_add)
(pss_one (ps_aug (i := 3) sc_gain_of_first.nd rfl (.inl rfl) (pv 6) ip_sub)))))
(pss_one (ps_ret (pv 2)))))), ?_⟩
    refine ⟨_, rfl, _, rfl, a, rfl, ⟨_, .inl (.inl ha)⟩, ?_⟩
    refine for_tup (K := K) (a := a) (xs := xs) (fun i σ H' => H' = H ∧ ∃ t r y4 y5 y6, σ = [some (.ref a), some (.int u), some (.int t), some (.int r), y4, y5, y6] ∧ 0 ≤ r ∧ worthG g u = t + worthG (g.drop i) r)
      ⟨rfl, 0, u, _, _, _, rfl, hu, by simp⟩ (fun i σ H' _ h => by rw [h.1]; exact .inl (.inl ha)) (fun i x σ H' hxi hp => ?_) (fun σ H' hp => ?_)
    · obtain ⟨rfl, t, r, y4, y5, y6, rfl, hr0, hw⟩ := hp
      obtain ⟨p, b, e1, rfl, e2⟩ := step_of hx hxi
      have hpb := hg p (List.mem_of_getElem? e1)
      rw [drop_next e1, worth_step] at hw
      refine ⟨b, _, rfl, .inl (.inl e2), rfl, _, _, rfl, _, _, rfl, rfl, ?_⟩
      refine ⟨_, rfl, _, rfl, p.1, r, rfl, ?_⟩
      generalize hm : (if r < p.1 then r else p.1) = m at hw ⊢
      have m0 : 0 ≤ m := by rw [← hm]; split <;> omega
      have m1 : m < 2 ^ 60 := by rw [← hm]; split <;> omega
      have m2 : m ≤ r := by rw [← hm]; split <;> omega
      refine ⟨_, rfl, _, rfl, _, rfl, _, _, rfl, rfl, .inl ⟨by omega, by omega⟩, _, _, rfl, rfl, _, rfl, _, rfl, _, _, rfl, rfl, rfl, t + m * p.2, r - m, _, _, _, rfl, by omega, by omega⟩
    · obtain ⟨rfl, t, r, y4, y5, y6, rfl, hr0, hw⟩ := hp
      rw [show g.drop xs.length = [] from List.drop_of_length_le (by rw [hx.len, List.length_map]; exact Nat.le_refl _)] at hw
      have : worthG g u = t := by rw [hw]; simp [worthG]
      rw [this] at q
      exact ⟨_, rfl, q H' (Same.refl _)⟩
end
end My

namespace My
open PySem PySem.Spec PyProof.Rows L2
/-! ### own errors with one field -/
/-- what the written part says of a class X(e) and of its __init__, whose text is s; f: the field -/
structure ErrC (K : PySem.W.Frag) (mg : Str → Option Value) (x ql f : Str) (s : Stmt) where
  C : Addr
  fI : Addr
  fd : FuncData
  g : mg x = some (.ref C)
  ox : OexC K C
  iC : PySem.W.findIn K (.ref C) "__init__" = some (some (.ref fI))
  tI : PySem.W.typeIn K (.ref fI) = some (.type "function")
  F : Fun K "__init__" ql s fI fd
  b : Binds K fd ["self", f] []
  no : PySem.W.findIn K (.ref C) f = some none
  xf : XfC K C
  ec : ExcC K C
def sp_init (K : PySem.W.Frag) (C : Addr) (f : Str) : Sp := fun vs H Q _ => ∃ (a : Addr) (v : V), vs = [.ref a, v] ∧ OexC K C ∧ PySem.W.findIn K (.ref C) f = some none ∧ H a = some (exo a C none) ∧
  ∀ dx, H dx = none → dx ≠ a → Q .non (upd (upd H dx (exd dx [(f, v)])) a (exo a C (some dx)))
abbrev sI_item : Stmt := inClass (topS 2) 0
abbrev sI_units : Stmt := inClass (topS 3) 0
theorem scI_item : FnScope ["self", "item"] ["self", "item"] (defScope sI_item) := ⟨rfl, rfl, rfl, by decide +kernel, rfl, by decide +kernel, by decide +kernel⟩
theorem scI_units : FnScope ["self", "units"] ["self", "units"] (defScope sI_units) := ⟨rfl, rfl, rfl, by decide +kernel, rfl, by decide +kernel, by decide +kernel⟩
section
variable {P : Program} {w : World} {K : PySem.W.Frag} {mg : Str → Option Value} {base : Heap}
theorem ok_init_item (T : ErrC K mg "NoItem" "NoItem.__init__" "item" sI_item) : FnOk P w K mg base CX0 1 T.fI T.fd ["self", "item"] (sp_init K T.C "item") := by
  refine T.F.ok scI_item (fun vs H Q E h => ?_) (fun cdv A outer s H vs Q E hr h => ?_)
  · obtain ⟨a, v, rfl, _⟩ := h
    rfl
  · obtain ⟨a, v, rfl, ox, no, ha, q⟩ := h
    refine ⟨_, pss_one (ps_ost (pv 0) (pv 1)), ?_⟩
    exact ⟨_, rfl, _, rfl, a, T.C, rfl, ox, no, .inl ⟨ha, q⟩⟩
theorem ok_init_units (T : ErrC K mg "NoUnits" "NoUnits.__init__" "units" sI_units) : FnOk P w K mg base CX0 1 T.fI T.fd ["self", "units"] (sp_init K T.C "units") := by
  refine T.F.ok scI_units (fun vs H Q E h => ?_) (fun cdv A outer s H vs Q E hr h => ?_)
  · obtain ⟨a, v, rfl, _⟩ := h
    rfl
  · obtain ⟨a, v, rfl, ox, no, ha, q⟩ := h
    refine ⟨_, pss_one (ps_ost (pv 0) (pv 1)), ?_⟩
    exact ⟨_, rfl, _, rfl, a, T.C, rfl, ox, no, .inl ⟨ha, q⟩⟩
/-- an error of the class C with the field f is let out -/
def Let (E : XK) (C : Addr) (f : Str) (v : V) (H : Hp) : Prop := ∀ d H', H d = none → Same H H' → H' d = some (.xd [(f, v)]) → E (.ref C) (some d) H'
/-- raise X(e): what its reading asks -/
theorem let_out {K : PySem.W.Frag} {C : Addr} {f : Str} {v : V} {H : Hp} {W : WX} {σ : L2.St} (ox : OexC K C) (no : PySem.W.findIn K (.ref C) f = some none) (h : ∀ d H', H d = none → Same H H' → H' d = some (.xd [(f, v)]) → W (.ref C) (some d) σ H') :
    [v].length ≤ 1000 ∧ ∀ a, H a = none → sp_init K C f (.ref a :: ([v] ++ [])) (upd H a (exo a C none))
      (fun z H2 => z = .non ∧ ∃ (d : Addr) (fs : List (Str × V)), H2 a = some (exo a C (some d)) ∧ H2 d = some (exd d fs) ∧ H d = none ∧ W (.ref C) (some d) σ (upd (del H2 a) d (.xd fs))) (fun _ _ _ => False) := by
  refine ⟨by simp, fun a na => ⟨a, v, rfl, ox, no, upd_same, fun dx nd hne => ⟨rfl, dx, [(f, v)], upd_same, ?_, ?_, ?_⟩⟩⟩
  · rw [upd_ne hne, upd_same]
  · rw [upd_ne hne] at nd
    exact nd
  · refine h dx _ ?_ ?_ upd_same
    · rw [upd_ne hne] at nd
      exact nd
    · rw [upd_ne hne] at nd
      intro b x e
      have n1 : b ≠ dx := ne_of_none e nd
      have n2 : b ≠ a := ne_of_none e na
      rw [upd_ne n1, del_ne n2, upd_ne n2, upd_ne n1, upd_ne n2]
      exact e
/-- is d the number of an item -/
def itemD (d : PyData) (n : Nat) : Bool := btw d 0 ((n : Int) - 1)
theorem itemD_int {d : PyData} {n : Nat} (h : itemD d n = true) : ∃ i : Int, d = .int i ∧ 0 ≤ i ∧ i < n := by
  cases d with
  | int i =>
    have := of_decide_eq_true h
    exact ⟨i, rfl, this.1, by omega⟩
  | _ => cases h
def sp_gains_of_item (cI : Addr) : Sp := fun vs H Q E => ∃ (D : Dk) (sv iv : V) (d : PyData) (rows : List Gs) (grps : List Grp), vs = [sv, iv] ∧ Fz H sv (sysD rows grps) ∧ Hd D H iv d ∧ rows.length ≤ 900 ∧
  (∀ (i : Int) g v, d = .int i → 0 ≤ i → i < rows.length → rows[i.toNat]? = some g → Fz H v (gD g) → Q v H) ∧ (itemD d rows.length = false → Let E cI "item" iv H)
theorem sys_parts {H : Hp} {v : V} {rows : List Gs} {grps : List Grp} (h : Fz H v (sysD rows grps)) : ∃ a b c xr xg, v = .ref a ∧ H a = some (.tup [.ref b, .ref c]) ∧ H b = some (.tup xr) ∧ FzAll H xr (rows.map gD) ∧ H c = some (.tup xg) ∧ FzAll H xg (grps.map grpD) := by
  obtain ⟨a, xs, rfl, e, k⟩ := h.tuple
  cases k with
  | cons k1 k2 =>
    cases k2 with
    | cons k3 k4 =>
      cases k4
      obtain ⟨b, xr, rfl, e1, f1⟩ := k1.tuple
      obtain ⟨c, xg, rfl, e2, f2⟩ := k3.tuple
      exact ⟨a, b, c, xr, xg, rfl, e, e1, f1, e2, f2⟩
theorem ok_gains_of_item (T : Txt K mg) (X : ErrC K mg "NoItem" "NoItem.__init__" "item" sI_item) : FnOk P w K mg base (L2.CX P w) 3 T.a_gains_of_item T.d_gains_of_item p_gains_of_item (sp_gains_of_item X.C) := by
  have G_is_between : FnOk P w K mg base CX0 1 T.a_is_between T.d_is_between p_is_between sp_is_between := ok_is_between T
  have G_init : FnOk P w K mg base CX0 1 X.fI X.fd ["self", "item"] (sp_init K X.C "item") := ok_init_item X
  refine T.F_gains_of_item.okX sc_gains_of_item (fun vs H Q E h => ?_) (fun cdv A outer s H vs Q E hr h => ?_)
  · obtain ⟨D, sv, iv, d, rows, grps, rfl, _⟩ := h
    rfl
  · obtain ⟨D, sv, iv, d, rows, grps, rfl, hs, hi, hrl, q1, q2⟩ := h
    obtain ⟨a, b, c, xr, xg, rfl, e1, e2, f2, e3, f3⟩ := sys_parts hs
    have lxr : xr.length = rows.length := by rw [f2.len, List.length_map]
    refine ⟨_, (pss_cons (ps_set (i := 2) sc_gains_of_item.nd rfl (.inl rfl) (pe_ix ix_F (pv 0) pe_int (fun _ _ => rfl)))
(pss_cons (ps_if (pt_not (pt_val (pe_call G_is_between (hr.mono (by decide)) (by rfl) T.g_is_between T.F_is_between.kp T.b_is_between .nil pass0 (pa_cons (pv 1) (pa_cons pe_int (pa_cons (pe_op op_sub (pe_callB call_lenF (by rfl) T.m_len PySem.boot_len (pa_cons (pv 2) pa_nil)) pe_int) pa_nil))))))
(pss_one (ps_raise rfl (takes_of rfl rfl rfl rfl) (pmk_oex X.ox X.iC X.tI G_init (hr.mono (by decide)) X.b .nil pass0 (by rfl) X.g (pa_cons (pv 1) pa_nil))))
pss_nil)
(pss_one (ps_ret (pe_ix ix_F (pv 2) (pv 1) (fun _ _ => rfl)))))), ?_⟩
    refine ⟨_, rfl, a, _, 0, .ref b, rfl, rfl, .inr e1, at0, _, rfl, _, rfl, b, xr, rfl, .inr e2, _, _, rfl, rfl, D, iv, d, 0, _, rfl, hi, _, rfl, ?_⟩
    rw [lxr]
    show if (!itemD d rows.length) = true then _ else _
    cases hc : itemD d rows.length with
    | false =>
      refine iteT ⟨_, rfl, ?_⟩
      exact let_out (H := H) (v := iv) (W := fun cls d _ H' => E cls d H') (σ := []) X.ox X.no (fun d' H' => q2 hc d' H')
    | true =>
      refine iteF ?_
      obtain ⟨i, rfl, i0, i1⟩ := itemD_int hc
      obtain rfl := hi.intE
      obtain ⟨v, hv1, hv2⟩ := at_of (xs := xr) (r := i) lxr i0 i1
      obtain ⟨g, hg1, hg2⟩ := row_of f2 hv2
      exact ⟨_, rfl, _, rfl, b, xr, i, v, rfl, rfl, .inr e2, hv1, q1 i g v rfl i0 i1 hg1 hg2⟩
end
end My

namespace My
open PySem PySem.Spec PyProof.Rows L2
/-- the exception that the suite holds has its dict where d says -/
def HasD (d : Option Addr) (H : Hp) : Prop := d = none ∨ ∃ dd fs, d = some dd ∧ H dd = some (.xd fs)
theorem HasD.same {d : Option Addr} {H H' : Hp} (h : HasD d H) (s : Same H H') : HasD d H' := by
  rcases h with h | ⟨dd, fs, e, h⟩
  · exact .inl h
  · exact .inr ⟨dd, fs, e, s _ _ h⟩
section
variable {X : Cx} {a : Addr} {oe : Obj} {cls : Value} {d : Option Addr} {pn : List (Addr × Obj)}
theorem suite_inst {pins : List (Addr × Obj)} {s : Shared} {σ : L2.St} {H : Hp} {D : Addr} (I : Inv (X.suite a ((a, oe) :: pn)) pins σ H s) (hz : Zc (.ref D) d oe) (hf : ∃ vs, oe.data = .fields vs) (hd : HasD d H) : ∃ od, PySem.W.InstAt s.heap a oe D od := by
  obtain ⟨hget, _⟩ := I.pin (a, oe) (List.mem_append.mpr (.inl List.mem_cons_self))
  obtain ⟨vs, hv⟩ := hf
  obtain ⟨oc, od, oda, osl⟩ := oe
  obtain ⟨h1, h2⟩ := hz
  dsimp only at h1 h2 hv
  subst h1 h2 hv
  rcases hd with rfl | ⟨dd, fs, rfl, hdd⟩
  · exact ⟨none, hget, rfl, rfl, trivial⟩
  · obtain ⟨mA, hns, _⟩ := (show ObjOk X.prog X.w H s.heap dd (.xd fs) from I.hok dd _ hdd)
    obtain ⟨o, ho, _⟩ := lookIn_ns hns
    exact ⟨some o, hget, rfl, rfl, ho⟩
/-- isinstance(e, C), isinstance(e, (C, ..)), e the exception that the suite holds -/
def rIsX (K : PySem.W.Frag) (cls : Value) (d : Option Addr) (a : Addr) : List V → Hp → VK → Prop := fun xs H Q => ∃ (D : Addr) (b : Bool), cls = .ref D ∧ ExcC K D ∧ HasD d H ∧
  ((∃ c : Addr, xs = [.ref a, .ref c] ∧ PySem.W.kitOne K (.ref D) (.ref c) = some b) ∨ (∃ (t : Addr) (cs : List Addr), xs = [.ref a, .ref t] ∧ H t = some (.tup (cs.map V.ref)) ∧ PySem.W.kitAny K (.ref D) (cs.map Value.ref) = some b)) ∧ Q (.bl b) H
theorem vals_refs : ∀ {cs : List Addr} {us : List Value}, Vals (cs.map V.ref) us → us = cs.map Value.ref
  | [], _, .nil => rfl
  | c :: cs, _, .cons h t => by
    rw [vals_refs t, show _ = Value.ref c from h]
    rfl
theorem call_isX (hz : Zc cls d oe) (hf : ∃ vs, oe.data = .fields vs) : CallR (X.suite a ((a, oe) :: pn)) (.builtin "isinstance") (rIsX X.K cls d a) := by
  intro pins s σ H xs us Q I r h
  obtain ⟨D, b, rfl, C, hd, h, q⟩ := h
  obtain ⟨od, J⟩ := suite_inst I hz hf hd
  have hcl : (PySem.W.clsIn X.K D).isSome = true := by
    obtain ⟨cd, hc, _⟩ := PySem.W.any_some C.hd
    rw [hc]
    rfl
  have Z := PySem.W.kitx_exc (K := X.K) (x := a) (ox := oe) (od := od) hcl C.hg C.hk C.hs C.ha C.hn C.ht C.hm
  rcases h with ⟨c, rfl, e⟩ | ⟨t, cs, rfl, ht, e⟩
  · obtain ⟨u1, u2, rfl, r1, r2⟩ := vals2 r
    cases (show u1 = Value.ref a from r1)
    cases (show u2 = Value.ref c from r2)
    exact PySem.W.kia_one Z I.kIn J e (fun z => nomatch z) fun tk => ⟨.bl b, H, I.tok tk, rfl, q⟩
  · obtain ⟨u1, u2, rfl, r1, r2⟩ := vals2 r
    cases (show u1 = Value.ref a from r1)
    cases (show u2 = Value.ref t from r2)
    obtain ⟨_, its, rv, o, h1, h2, n, h3⟩ := (show ObjOk X.prog X.w H s.heap t (.tup (cs.map V.ref)) from I.hok t _ ht)
    have e3 := vals_refs rv
    subst e3
    obtain ⟨oc, od', dt, sl⟩ := o
    simp only at h2 h3
    subst h2 h3
    exact PySem.W.kia_tup Z I.kIn J h1 e (fun z => nomatch z) fun tk => ⟨.bl b, H, I.tok tk, rfl, q⟩
end
theorem Let.mono {E : XK} {C : Addr} {f : Str} {v : V} {H H1 : Hp} (h : Let E C f v H) (s : Same H H1) : Let E C f v H1 := fun d H' n s' e => h d H' (Same.free s n) (s.trans s') e
def sp_capacity_of (cI : Addr) : Sp := fun vs H Q E => ∃ (D : Dk) (sv iv : V) (d : PyData) (rows : List Gs) (grps : List Grp), vs = [sv, iv] ∧ Fz H sv (sysD rows grps) ∧ Hd D H iv d ∧ rows.length ≤ 900 ∧ (∀ g ∈ rows, g.length ≤ 900) ∧
  (∀ (i : Int) g, d = .int i → 0 ≤ i → i < rows.length → rows[i.toNat]? = some g → ∀ H', Same H H' → Q (.int (capG g)) H') ∧ (itemD d rows.length = false → Let E cI "item" iv H)
def sp_gain_of_units (cI cU : Addr) : Sp := fun vs H Q E => ∃ (D : Dk) (sv iv uv : V) (d e : PyData) (rows : List Gs) (grps : List Grp), vs = [sv, iv, uv] ∧ Fz H sv (sysD rows grps) ∧ Hd D H iv d ∧ Hd D H uv e ∧ (∃ c, D.On H c) ∧ rows.length ≤ 900 ∧ (∀ g ∈ rows, g.length ≤ 900 ∧ ∀ p ∈ g, 0 ≤ p.1 ∧ p.1 < 2 ^ 60) ∧
  (∀ (i : Int) g, d = .int i → 0 ≤ i → i < rows.length → rows[i.toNat]? = some g → (∀ u : Int, e = .int u → 0 ≤ u → u ≤ capG g → ∀ H', Same H H' → Q (.int (worthG g u)) H') ∧ (btw e 0 (capG g) = false → Let E cU "units" uv H)) ∧
  (itemD d rows.length = false → Let E cI "item" iv H)
section
variable {P : Program} {w : World} {K : PySem.W.Frag} {mg : Str → Option Value} {base : Heap}
theorem ok_capacity_of (T : Txt K mg) (X : ErrC K mg "NoItem" "NoItem.__init__" "item" sI_item) : FnOk P w K mg base (L2.CX P w) 4 T.a_capacity_of T.d_capacity_of p_capacity_of (sp_capacity_of X.C) := by
  have G_gains_of_item : FnOk P w K mg base (L2.CX P w) 3 T.a_gains_of_item T.d_gains_of_item p_gains_of_item (sp_gains_of_item X.C) := ok_gains_of_item T X
  have G_capacity_of_gains : FnOk P w K mg base CX0 1 T.a_capacity_of_gains T.d_capacity_of_gains p_capacity_of_gains sp_cap := ok_capacity_of_gains T
  refine T.F_capacity_of.okX sc_capacity_of (fun vs H Q E h => ?_) (fun cdv A outer s H vs Q E hr h => ?_)
  · obtain ⟨D, sv, iv, d, rows, grps, rfl, _⟩ := h
    rfl
  · obtain ⟨D, sv, iv, d, rows, grps, rfl, hs, hi, hrl, hgl, q1, q2⟩ := h
    refine ⟨_, (pss_one (ps_ret (pe_call G_capacity_of_gains (hr.mono (by decide)) (by rfl) T.g_capacity_of_gains T.F_capacity_of_gains.kp T.b_capacity_of_gains .nil pass0 (pa_cons (pe_call G_gains_of_item (hr.mono (by decide)) (by rfl) T.g_gains_of_item T.F_gains_of_item.kp T.b_gains_of_item .nil (passes_call (takes_of rfl rfl rfl rfl) (fun _ _ _ _ h => h)) (pa_cons (pv 0) (pa_cons (pv 1) pa_nil))) pa_nil)))), ?_⟩
    exact ⟨_, rfl, _, rfl, D, sv, iv, d, rows, grps, rfl, hs, hi, hrl, fun i g v e i0 i1 hg fv => ⟨v, g, rfl, fv, hgl g (List.mem_of_getElem? hg), fun H' s' => q1 i g e i0 i1 hg H' s'⟩, q2⟩
theorem ok_gain_of_units (T : Txt K mg) (X : ErrC K mg "NoItem" "NoItem.__init__" "item" sI_item) (Y : ErrC K mg "NoUnits" "NoUnits.__init__" "units" sI_units) : FnOk P w K mg base (L2.CX P w) 4 T.a_gain_of_units T.d_gain_of_units p_gain_of_units (sp_gain_of_units X.C Y.C) := by
  have G_gains_of_item : FnOk P w K mg base (L2.CX P w) 3 T.a_gains_of_item T.d_gains_of_item p_gains_of_item (sp_gains_of_item X.C) := ok_gains_of_item T X
  have G_capacity_of_gains : FnOk P w K mg base CX0 1 T.a_capacity_of_gains T.d_capacity_of_gains p_capacity_of_gains sp_cap := ok_capacity_of_gains T
  have G_is_between : FnOk P w K mg base CX0 1 T.a_is_between T.d_is_between p_is_between sp_is_between := ok_is_between T
  have G_gain_of_first : FnOk P w K mg base CX0 1 T.a_gain_of_first T.d_gain_of_first p_gain_of_first sp_gain_of_first := ok_gain_of_first T
  have G_init : FnOk P w K mg base CX0 1 Y.fI Y.fd ["self", "units"] (sp_init K Y.C "units") := ok_init_units Y
  refine T.F_gain_of_units.okX sc_gain_of_units (fun vs H Q E h => ?_) (fun cdv A outer s H vs Q E hr h => ?_)
  · obtain ⟨D, sv, iv, uv, d, e, rows, grps, rfl, _⟩ := h
    rfl
  · obtain ⟨D, sv, iv, uv, d, e, rows, grps, rfl, hs, hi, hu, ⟨c, hD⟩, hrl, hgl, q1, q2⟩ := h
    refine ⟨_, (pss_cons (ps_set (i := 3) sc_gain_of_units.nd rfl (.inl rfl) (pe_call G_gains_of_item (hr.mono (by decide)) (by rfl) T.g_gains_of_item T.F_gains_of_item.kp T.b_gains_of_item .nil (passes_call (takes_of rfl rfl rfl rfl) (fun _ _ _ _ h => h)) (pa_cons (pv 0) (pa_cons (pv 1) pa_nil))))
(pss_cons (ps_if (pt_not (pt_val (pe_call G_is_between (hr.mono (by decide)) (by rfl) T.g_is_between T.F_is_between.kp T.b_is_between .nil pass0 (pa_cons (pv 2) (pa_cons pe_int (pa_cons (pe_call G_capacity_of_gains (hr.mono (by decide)) (by rfl) T.g_capacity_of_gains T.F_capacity_of_gains.kp T.b_capacity_of_gains .nil pass0 (pa_cons (pv 3) pa_nil)) pa_nil))))))
(pss_one (ps_raise rfl (takes_of rfl rfl rfl rfl) (pmk_oex Y.ox Y.iC Y.tI G_init (hr.mono (by decide)) Y.b .nil pass0 (by rfl) Y.g (pa_cons (pv 2) pa_nil))))
pss_nil)
(pss_one (ps_ret (pe_call G_gain_of_first (hr.mono (by decide)) (by rfl) T.g_gain_of_first T.F_gain_of_first.kp T.b_gain_of_first .nil pass0 (pa_cons (pv 3) (pa_cons (pv 2) pa_nil))))))), ?_⟩
    refine ⟨_, rfl, _, rfl, D, sv, iv, d, rows, grps, rfl, hs, hi, hrl, fun i g v e' i0 i1 hg fv => ?_, q2⟩
    have hgm := List.mem_of_getElem? hg
    obtain ⟨r1, r2⟩ := q1 i g e' i0 i1 hg
    refine ⟨_, rfl, _, rfl, v, g, rfl, fv, (hgl g hgm).1, fun H1 s1 => ⟨D, uv, e, 0, capG g, rfl, hu.keep hD (Same.keep s1), _, rfl, ?_⟩⟩
    show if (!btw e 0 (capG g)) = true then _ else _
    cases hc : btw e 0 (capG g) with
    | false =>
      refine iteT ⟨_, rfl, ?_⟩
      exact let_out (H := H1) (v := uv) (W := fun cls d _ H' => E cls d H') (σ := []) Y.ox Y.no (fun d' H' => (r2 hc).mono s1 d' H')
    | true =>
      refine iteF ?_
      obtain ⟨u, rfl, u0, u1⟩ : ∃ u : Int, e = .int u ∧ 0 ≤ u ∧ u ≤ capG g := by
        cases e with
        | int u =>
          have := of_decide_eq_true hc
          exact ⟨u, rfl, this.1, this.2⟩
        | _ => cases hc
      obtain rfl := hu.intE
      exact ⟨_, rfl, _, rfl, v, g, u, rfl, fv.tk (Same.tk s1), (hgl g hgm).1, (hgl g hgm).2, u0, fun H2 s2 => r1 u rfl u0 u1 H2 (s1.trans s2)⟩
end
end My

namespace My
open PySem PySem.Spec PyProof.Rows L2
def sp_q_whole : Sp := fun vs H Q _ => ∃ (D : Dk) (v : V) (d : PyData), vs = [v] ∧ Hd D H v d ∧ Q (.bl (wholeD d)) H
theorem whole_of {d : PyData} : wholeD d = (isiD "int" d && !isiD "bool" d) := by
  cases d <;> simp [wholeD, isiD]
def sp_q_worth : Sp := fun vs H Q _ => ∃ (v : V) (g : Gs) (u : Int), vs = [v, .int u] ∧ Fz H v (gD g) ∧ g.length ≤ 900 ∧ (∀ p ∈ g, 0 ≤ p.1 ∧ p.1 < 2 ^ 60 ∧ -100 ≤ p.2 ∧ p.2 ≤ 100) ∧ 0 ≤ u ∧ (∀ H', Same H H' → Q (.int (worthG g u)) H')
structure XTxt (K : PySem.W.Frag) (mg : Str → Option Value) where
  I : ErrC K mg "NoItem" "NoItem.__init__" "item" sI_item
  U : ErrC K mg "NoUnits" "NoUnits.__init__" "units" sI_units
  cap : Addr
  n1 : Addr
  n2 : Addr
  n3 : Addr
  gCap : mg "CapError" = some (.ref cap)
  g1 : mg "NoNumber" = some (.ref n1)
  g2 : mg "NoPlan" = some (.ref n2)
  g3 : mg "NoTotal" = some (.ref n3)
  eI : PySem.W.exmOne K (.ref I.C) (.ref cap) = some true
  eU : PySem.W.exmOne K (.ref U.C) (.ref cap) = some true
  kII : PySem.W.kitOne K (.ref I.C) (.ref I.C) = some true
  kIU : PySem.W.kitOne K (.ref I.C) (.ref U.C) = some false
  kUI : PySem.W.kitOne K (.ref U.C) (.ref I.C) = some false
  kUU : PySem.W.kitOne K (.ref U.C) (.ref U.C) = some true
  kI : PySem.W.kitAny K (.ref I.C) [.ref U.C, .ref n1, .ref n2, .ref n3] = some false
  kU : PySem.W.kitAny K (.ref U.C) [.ref I.C, .ref n1, .ref n2, .ref n3] = some false
def rowAt (rows : List Gs) (d : PyData) : Gs := match d with
  | .int i => rows.getD i.toNat []
  | _ => []
def intOf : PyData → Int
  | .int i => i
  | _ => 0
/-- what is told at a door -/
def toldD (door : Int) (d e : PyData) (rows : List Gs) : PyData :=
  if itemD d rows.length = true then
    (if door = 0 then .list [.str "told", .int (capG (rowAt rows d))]
      else if btw e 0 (capG (rowAt rows d)) = true then .list [.str "told", .int (worthG (rowAt rows d) (intOf e))] else .list [.str "units", e])
  else .list [.str "item", d]
/-- a new list of a word and a number, or one of the two values -/
def Made (H H' : Hp) (p : Addr) (iv uv : V) (d e dd : PyData) : Prop := H p = none ∧ ∃ (z : Str) (x : V) (dx : PyData), H' p = some (.lst [.str z, x]) ∧ dd = .list [.str z, dx] ∧ ((∃ n : Int, x = .int n ∧ dx = .int n) ∨ (x = iv ∧ dx = d) ∨ (x = uv ∧ dx = e))
def sp_q_told : Sp := fun vs H Q _ => ∃ (D : Dk) (c : Nat) (door : Int) (sv iv uv : V) (d e : PyData) (rows : List Gs) (grps : List Grp), vs = [.int door, sv, iv, uv] ∧ D.On H c ∧ Fz H sv (sysD rows grps) ∧ Hd D H iv d ∧ Hd D H uv e ∧
  rows.length ≤ 900 ∧ (∀ g ∈ rows, g.length ≤ 900 ∧ ∀ p ∈ g, 0 ≤ p.1 ∧ p.1 < 2 ^ 60 ∧ -100 ≤ p.2 ∧ p.2 ≤ 100) ∧ ∀ H' p, Same H H' → Made H H' p iv uv d e (toldD door d e rows) → Q (.ref p) H'
theorem toldD_item {door : Int} {d e : PyData} {rows : List Gs} (h : itemD d rows.length = false) : toldD door d e rows = .list [.str "item", d] := by
  unfold toldD
  rw [if_neg (by rw [h]; simp)]
theorem toldD_int {door : Int} {i : Int} {e : PyData} {rows : List Gs} {g : Gs} (h0 : 0 ≤ i) (h1 : i < rows.length) (hg : rows[i.toNat]? = some g) :
    toldD door (.int i) e rows = (if door = 0 then .list [.str "told", .int (capG g)] else if btw e 0 (capG g) = true then .list [.str "told", .int (worthG g (intOf e))] else .list [.str "units", e]) := by
  have a : itemD (.int i) rows.length = true := decide_eq_true ⟨h0, by omega⟩
  have b : rowAt rows (.int i) = g := getD_of hg
  unfold toldD
  rw [if_pos a, b]
theorem hd_list {D : Dk} {H H' : Hp} {c : Nat} {p : Addr} {xs : List V} {ds : List PyData} (o : D.On H c) (n : H p = none) (e : H' p = some (.lst xs)) (h : HdAll D H' xs ds) : Hd D H' (.ref p) (.list ds) :=
  let z := o.at_ne n
  .lst e z.1 z.2.1 h
section
variable {P : Program} {w : World} {K : PySem.W.Frag} {mg : Str → Option Value} {base : Heap}
theorem ok_q_whole (T : Txt K mg) : FnOk P w K mg base CX0 1 T.a_q_whole T.d_q_whole p_q_whole sp_q_whole := by
  refine T.F_q_whole.ok sc_q_whole (fun vs H Q E h => ?_) (fun cdv A outer s H vs Q E hr h => ?_)
  · obtain ⟨D, v, d, rfl, _⟩ := h
    rfl
  · obtain ⟨D, v, d, rfl, hv, q⟩ := h
    refine ⟨_, (pss_one (ps_ret (pe_and (pe_callB (call_isiF D) (by rfl) T.m_isinstance (by decide +kernel) (pa_cons (pv 0) (pa_cons (pe_bltn (v := .ty "int") (by rfl) T.m_int (by decide +kernel) rfl) pa_nil))) (pe_one (pe_not (pe_callB (call_isiF D) (by rfl) T.m_isinstance (by decide +kernel) (pa_cons (pv 0) (pa_cons (pe_bltn (v := .ty "bool") (by rfl) T.m_bool (by decide +kernel) rfl) pa_nil)))))))), ?_⟩
    rw [whole_of] at q
    refine ⟨_, rfl, v, "int", d, rfl, (by decide), hv, _, rfl, ?_⟩
    cases e1 : isiD "int" d with
    | false =>
      rw [e1] at q
      exact iteF q
    | true =>
      rw [e1] at q
      exact iteT ⟨_, rfl, v, "bool", d, rfl, (by decide), hv, _, rfl, q⟩
theorem ok_q_worth (T : Txt K mg) : FnOk P w K mg base CX0 1 T.a_q_worth T.d_q_worth p_q_worth sp_q_worth := by
  refine T.F_q_worth.ok sc_q_worth (fun vs H Q E h => ?_) (fun cdv A outer s H vs Q E hr h => ?_)
  · obtain ⟨v, g, u, rfl, _⟩ := h
    rfl
  · obtain ⟨v, g, u, rfl, hv, hl, hg, hu, q⟩ := h
    obtain ⟨a, xs, rfl, ha, hx⟩ := hv.tuple
    refine ⟨_, (pss_cons (ps_asg (pe_tupF (pa_cons pe_int (pa_cons pe_int pa_nil))) (pg_tup (by rfl) (pgs_cons (pg_name (i := 2) sc_q_worth.nd rfl (.inl rfl)) (pgs_cons (pg_name (i := 3) sc_q_worth.nd rfl (.inl rfl)) pgs_nil))))
(pss_cons (ps_for PassesOwn.never rfl (pi_tup (pv 0)) (pg_tup (by rfl) (pgs_cons (pg_name (i := 4) sc_q_worth.nd rfl (.inl rfl)) (pgs_cons (pg_name (i := 5) sc_q_worth.nd rfl (.inl rfl)) pgs_nil)))
(pss_cons (ps_set (i := 2) sc_q_worth.nd rfl (.inl rfl) (pe_op op_add (pv 2) (pe_op op_mul (pv 5) (pe_callB (call_max2 rfl) (by rfl) T.m_max (by decide +kernel) (pa_cons pe_int (pa_cons (pe_callB (call_min2 rfl) (by rfl) T.m_min (by decide +kernel) (pa_cons (pv 4) (pa_cons (pe_op op_sub (pv 1) (pv 3)) pa_nil))) pa_nil))))))
(pss_one (ps_set (i := 3) sc_q_worth.nd rfl (.inl rfl) (pe_op op_add (pv 3) (pv 4))))))
(pss_one (ps_ret (pv 2))))), ?_⟩
    refine ⟨by simp, fun pz Hz nz sz ez => ⟨pz, _, rfl, .inl (.inl ez), rfl, _, _, rfl, _, _, rfl, rfl, ?_⟩⟩
    have haz := sz _ _ ha
    have hxz := hx.tk (Same.tk sz)
    refine ⟨_, rfl, a, rfl, ⟨_, .inl (.inl haz)⟩, ?_⟩
    refine for_tup (K := K) (a := a) (xs := xs) (fun i σ H' => H' = Hz ∧ ∃ t b y4 y5, σ = [some (.ref a), some (.int u), some (.int t), some (.int b), y4, y5] ∧ worthG g u = t + worthG (g.drop i) (if u - b < 0 then 0 else u - b))
      ⟨rfl, 0, 0, _, _, rfl, by rw [List.drop_zero, Int.sub_zero, if_neg (by omega)]; omega⟩ (fun i σ H' _ h => by rw [h.1]; exact .inl (.inl haz)) (fun i x σ H' hxi hp => ?_) (fun σ H' hp => ?_)
    · obtain ⟨rfl, t, b, y4, y5, rfl, hw⟩ := hp
      obtain ⟨p, pa, e1, rfl, e2⟩ := step_of hxz hxi
      have hpb := hg p (List.mem_of_getElem? e1)
      rw [drop_next e1, worth_step] at hw
      refine ⟨pa, _, rfl, .inl (.inl e2), rfl, _, _, rfl, _, _, rfl, rfl, ?_⟩
      refine ⟨_, rfl, _, rfl, _, rfl, _, rfl, _, rfl, _, _, rfl, rfl, p.1, u - b, rfl, 0, _, rfl, ?_⟩
      generalize hR : (if u - b < 0 then 0 else u - b) = R at hw
      generalize hm : (if (if u - b < p.1 then u - b else p.1) > 0 then (if u - b < p.1 then u - b else p.1) else 0) = m
      have em : (if R < p.1 then R else p.1) = m := by
        rw [← hm, ← hR]
        split <;> split <;> split <;> omega
      have eR : R - m = (if u - (b + p.1) < 0 then 0 else u - (b + p.1)) := by
        rw [← em, ← hR]
        split <;> split <;> split <;> omega
      rw [em, eR, Int.mul_comm] at hw
      refine ⟨_, _, rfl, rfl, .inl ⟨by omega, by omega⟩, _, _, rfl, rfl, _, rfl, _, rfl, _, _, rfl, rfl, rfl, t + p.2 * m, b + p.1, _, _, rfl, by omega⟩
    · obtain ⟨rfl, t, b, y4, y5, rfl, hw⟩ := hp
      rw [show g.drop xs.length = [] from List.drop_of_length_le (by rw [hx.len, List.length_map]; exact Nat.le_refl _)] at hw
      have : worthG g u = t := by rw [hw]; simp [worthG]
      rw [this] at q
      exact ⟨_, rfl, q H' sz⟩
end
end My

namespace My
open PySem PySem.Spec PyProof.Rows L2
section
variable {P : Program} {w : World} {K : PySem.W.Frag} {mg : Str → Option Value} {base : Heap}
/-- the try's body, by its reading -/
def tB_told (cI cU : Addr) (W : WX) : TS := tAsg (tLstF (tCons (tC (.str "told")) (tCons (tIf (tTest (tOp rEq (tVar 0) (tC (.int 0)))) (tCallS (sp_capacity_of cI) (WE W) (tCons (tVar 1) (tCons (tVar 2) tNil))) (tCallS (sp_gain_of_units cI cU) (WE W) (tCons (tVar 1) (tCons (tVar 2) (tCons (tVar 3) tNil))))) tNil))) (gName 4)
/-- the test of the suite's ifs -/
def tS_is (K : PySem.W.Frag) (cls : Value) (d : Option Addr) (a : Addr) (c : Addr) (c1 c2 c3 c4 : Addr) : TT := tAnd (tB (tCB (rIsX K cls d a) (tCons (tVar 5) (tCons (tC (.ref c)) tNil))))
  (tNot (tB (tCB (rIsX K cls d a) (tCons (tVar 5) (tCons (tTupF (tCons (tC (.ref c1)) (tCons (tC (.ref c2)) (tCons (tC (.ref c3)) (tCons (tC (.ref c4)) tNil))))) tNil)))))
def tS_told (K : PySem.W.Frag) (cI cU n1 n2 n3 : Addr) (a : Addr) (cls : Value) (d : Option Addr) : TS :=
  tSeq (tAsg (tLstF (tCons (tC (.str "other")) tNil)) (gName 4))
    (tSeq (tIfS (tS_is K cls d a cI cU n1 n2 n3) (tAsg (tLstF (tCons (tC (.str "item")) (tCons (tXf a cls d cI "item" (tVar 5)) tNil))) (gName 4)) tNext)
      (tIfS (tS_is K cls d a cU cI n1 n2 n3) (tAsg (tLstF (tCons (tC (.str "units")) (tCons (tXf a cls d cU "units" (tVar 5)) tNil))) (gName 4)) tNext))
theorem hd_told_item {D : Dk} {H H' : Hp} {c : Nat} {p : Addr} {iv : V} {d : PyData} {w1 : Str} (o : D.On H c) (n : H p = none) (e : H' p = some (.lst [.str w1, iv])) (h : Hd D H' iv d) : Hd D H' (.ref p) (.list [.str w1, d]) :=
  hd_list o n e (.cons (.str _) (.cons h .nil))
theorem ok_q_told (T : Txt K mg) (X : XTxt K mg) : FnOk P w K mg base (L2.CX P w) 5 T.a_q_told T.d_q_told p_q_told sp_q_told := by
  have G_capacity_of : FnOk P w K mg base (L2.CX P w) 4 T.a_capacity_of T.d_capacity_of p_capacity_of (sp_capacity_of X.I.C) := ok_capacity_of T X.I
  have G_gain_of_units : FnOk P w K mg base (L2.CX P w) 4 T.a_gain_of_units T.d_gain_of_units p_gain_of_units (sp_gain_of_units X.I.C X.U.C) := ok_gain_of_units T X.I X.U
  refine T.F_q_told.okX sc_q_told (fun vs H Q E h => ?_) (fun cdv A outer s H vs Q E hr h => ?_)
  · obtain ⟨D, c, door, sv, iv, uv, d, e, rows, grps, rfl, _⟩ := h
    rfl
  · obtain ⟨D, c, door, sv, iv, uv, d, e, rows, grps, rfl, hD, hs, hi, hu, hrl, hgl, q⟩ := h
    refine ⟨_, (pss_cons (ps_set (i := 4) sc_q_told.nd rfl (.inl rfl) pe_non)
      (pss_cons (ps_try_as (i := 5) (tb := tB_told X.I.C X.U.C) (ts := tS_told K X.I.C X.U.C X.n1 X.n2 X.n3) (Wout := fun _ _ _ _ => False) rfl rfl sc_q_told.nd rfl rfl ⟨rfl, by decide, .inl X.gCap⟩ takes0
        (fun W pn xe tk _ => pss_one (ps_set (i := 4) sc_q_told.nd rfl (.inl rfl) (pe_lstF (pa_cons pe_str (pa_cons (pe_ifExp (pt_cmpR op_eq (pv 0) pe_int (nomark _))
          (pe_callS G_capacity_of (hr.mono (by decide)) (by rfl) T.g_capacity_of T.F_capacity_of.kp T.b_capacity_of (fun σ => passAt tk σ) (pa_cons (pv 1) (pa_cons (pv 2) pa_nil)))
          (pe_callS G_gain_of_units (hr.mono (by decide)) (by rfl) T.g_gain_of_units T.F_gain_of_units.kp T.b_gain_of_units (fun σ => passAt tk σ) (pa_cons (pv 1) (pa_cons (pv 2) (pa_cons (pv 3) pa_nil))))) pa_nil)))))
        (fun a oe cls d pn hz hf => (pss_cons (ps_set (i := 4) sc_q_told.nd rfl (.inl rfl) (pe_lstF (pa_cons pe_str pa_nil)))
          (pss_cons (ps_if (PW.pt (pw_and (pt_val (pe_callB (call_isX hz hf) (by rfl) T.m_isinstance (by decide +kernel) (pa_cons (pv 5) (pa_cons (pe_glob (v := .ref X.I.C) (by rfl) X.I.g rfl) pa_nil)))) (pw_and1 (pt_not (pt_val (pe_callB (call_isX hz hf) (by rfl) T.m_isinstance (by decide +kernel) (pa_cons (pv 5) (pa_cons (pe_tupF (pa_cons (pe_glob (v := .ref X.U.C) (by rfl) X.U.g rfl) (pa_cons (pe_glob (v := .ref X.n1) (by rfl) X.g1 rfl) (pa_cons (pe_glob (v := .ref X.n2) (by rfl) X.g2 rfl) (pa_cons (pe_glob (v := .ref X.n3) (by rfl) X.g3 rfl) pa_nil))))) pa_nil))))))))
            (pss_one (ps_set (i := 4) sc_q_told.nd rfl (.inl rfl) (pe_lstF (pa_cons pe_str (pa_cons (pe_xf X.I.xf X.I.no hz hf (pv 5)) pa_nil))))) pss_nil)
          (pss_one (ps_if (PW.pt (pw_and (pt_val (pe_callB (call_isX hz hf) (by rfl) T.m_isinstance (by decide +kernel) (pa_cons (pv 5) (pa_cons (pe_glob (v := .ref X.U.C) (by rfl) X.U.g rfl) pa_nil)))) (pw_and1 (pt_not (pt_val (pe_callB (call_isX hz hf) (by rfl) T.m_isinstance (by decide +kernel) (pa_cons (pv 5) (pa_cons (pe_tupF (pa_cons (pe_glob (v := .ref X.I.C) (by rfl) X.I.g rfl) (pa_cons (pe_glob (v := .ref X.n1) (by rfl) X.g1 rfl) (pa_cons (pe_glob (v := .ref X.n2) (by rfl) X.g2 rfl) (pa_cons (pe_glob (v := .ref X.n3) (by rfl) X.g3 rfl) pa_nil))))) pa_nil))))))))
            (pss_one (ps_set (i := 4) sc_q_told.nd rfl (.inl rfl) (pe_lstF (pa_cons pe_str (pa_cons (pe_xf X.U.xf X.U.no hz hf (pv 5)) pa_nil))))) pss_nil))))))
      (pss_one (ps_ret (pv 4))))), ?_⟩
    -- what follows an error of NoItem, of NoUnits
    have hIt : itemD d rows.length = false → ∀ dd H1, H dd = none → Same H H1 → H1 dd = some (.xd [("item", iv)]) → ∀ (a : Addr) (Dn : Ends) (y4 : Option V), (∀ H2 p, Same H H2 → Made H H2 p iv uv d e (.list [.str "item", d]) → Dn.nx [some (.int door), some sv, some iv, some uv, some (.ref p), some (.ref a)] H2) →
        tS_told K X.I.C X.U.C X.n1 X.n2 X.n3 a (.ref X.I.C) (some dd) Dn [some (.int door), some sv, some iv, some uv, y4, some (.ref a)] H1 := by
      intro hit dd H1 nd s1 ed a Dn y4 k
      refine ⟨by simp, fun p1 H2 n1 s2 e1 => ⟨_, rfl, X.I.C, true, rfl, X.I.ec, .inr ⟨dd, _, rfl, s2 _ _ ed⟩, .inl ⟨X.I.C, rfl, X.kII⟩, _, rfl, iteT ⟨_, rfl, by simp, fun pt H3 nt s3 et => ⟨X.I.C, false, rfl, X.I.ec, .inr ⟨dd, _, rfl, s3 _ _ (s2 _ _ ed)⟩, .inr ⟨pt, [X.U.C, X.n1, X.n2, X.n3], rfl, et, X.kI⟩, _, rfl, iteT ?_⟩⟩⟩⟩
      refine ⟨_, rfl, rfl, rfl, dd, _, iv, rfl, s3 _ _ (s2 _ _ ed), rfl, by simp, fun p2 H4 n2 s4 e2 => ?_⟩
      refine ⟨_, rfl, X.I.C, false, rfl, X.I.ec, .inr ⟨dd, _, rfl, s4 _ _ (s3 _ _ (s2 _ _ ed))⟩, .inl ⟨X.U.C, rfl, X.kIU⟩, _, rfl, iteF (iteF ?_)⟩
      have s03 : Same H H3 := (s1.trans s2).trans s3
      have s04 : Same H H4 := s03.trans s4
      exact k H4 p2 s04 ⟨Same.free s03 n2, _, _, _, e2, rfl, .inr (.inl ⟨rfl, rfl⟩)⟩
    have hUn : ∀ dd H1, H dd = none → Same H H1 → H1 dd = some (.xd [("units", uv)]) → ∀ (a : Addr) (Dn : Ends) (y4 : Option V), (∀ H2 p, Same H H2 → Made H H2 p iv uv d e (.list [.str "units", e]) → Dn.nx [some (.int door), some sv, some iv, some uv, some (.ref p), some (.ref a)] H2) →
        tS_told K X.I.C X.U.C X.n1 X.n2 X.n3 a (.ref X.U.C) (some dd) Dn [some (.int door), some sv, some iv, some uv, y4, some (.ref a)] H1 := by
      intro dd H1 nd s1 ed a Dn y4 k
      refine ⟨by simp, fun p1 H2 n1 s2 e1 => ⟨_, rfl, X.U.C, false, rfl, X.U.ec, .inr ⟨dd, _, rfl, s2 _ _ ed⟩, .inl ⟨X.I.C, rfl, X.kUI⟩, _, rfl, iteF (iteF ?_)⟩⟩
      refine ⟨_, rfl, X.U.C, true, rfl, X.U.ec, .inr ⟨dd, _, rfl, s2 _ _ ed⟩, .inl ⟨X.U.C, rfl, X.kUU⟩, _, rfl, iteT ⟨_, rfl, by simp, fun pt H3 nt s3 et => ⟨X.U.C, false, rfl, X.U.ec, .inr ⟨dd, _, rfl, s3 _ _ (s2 _ _ ed)⟩, .inr ⟨pt, [X.I.C, X.n1, X.n2, X.n3], rfl, et, X.kU⟩, _, rfl, iteT ?_⟩⟩⟩
      refine ⟨_, rfl, rfl, rfl, dd, _, uv, rfl, s3 _ _ (s2 _ _ ed), rfl, by simp, fun p2 H4 n2 s4 e2 => ?_⟩
      have s03 : Same H H3 := (s1.trans s2).trans s3
      have s04 : Same H H4 := s03.trans s4
      exact k H4 p2 s04 ⟨Same.free s03 n2, _, _, _, e2, rfl, .inr (.inr ⟨rfl, rfl⟩)⟩
    have outI : itemD d rows.length = false → ∀ (Dn : Ends), (∀ y5 H2 p, Same H H2 → Made H H2 p iv uv d e (.list [.str "item", d]) → Dn.nx [some (.int door), some sv, some iv, some uv, some (.ref p), y5] H2) →
        Let (WE (wAs K (.ref X.cap) 5 (tS_told K X.I.C X.U.C X.n1 X.n2 X.n3) (fun _ _ _ _ => False) Dn) [some (.int door), some sv, some iv, some uv, some .non, none]) X.I.C "item" iv H := by
      intro hit Dn k dd H1 nd s1 ed
      exact ⟨true, X.eI, fun _ a ha => hIt hit dd H1 nd s1 ed a _ _ (fun H2 p s2 h2 => k none H2 p s2 h2), fun z => by cases z⟩
    have outU : ∀ (Dn : Ends), (∀ y5 H2 p, Same H H2 → Made H H2 p iv uv d e (.list [.str "units", e]) → Dn.nx [some (.int door), some sv, some iv, some uv, some (.ref p), y5] H2) →
        Let (WE (wAs K (.ref X.cap) 5 (tS_told K X.I.C X.U.C X.n1 X.n2 X.n3) (fun _ _ _ _ => False) Dn) [some (.int door), some sv, some iv, some uv, some .non, none]) X.U.C "units" uv H := by
      intro Dn k dd H1 nd s1 ed
      exact ⟨true, X.eU, fun _ a ha => hUn dd H1 nd s1 ed a _ _ (fun H2 p s2 h2 => k none H2 p s2 h2), fun z => by cases z⟩
    have fin : ∀ (y5 : Option V) H2 p (dd : PyData), toldD door d e rows = dd → Same H H2 → Made H H2 p iv uv d e dd → tRet (tVar 4) { nx := fun _ H' => Q .non H', rt := Q } [some (.int door), some sv, some iv, some uv, some (.ref p), y5] H2 :=
      fun y5 H2 p dd ed s2 h2 => ⟨_, rfl, q H2 p s2 (by rw [ed]; exact h2)⟩
    refine ⟨_, rfl, rfl, _, rfl, ite2 (fun e0 => ?_) (fun e0 => ?_)⟩
    · have hd0 : door = 0 := V.int.inj (of_decide_eq_true e0)
      refine ⟨_, rfl, _, rfl, D, sv, iv, d, rows, grps, rfl, hs, hi, hrl, fun g hg => (hgl g hg).1, fun i g e' i0 i1 hg H1 s1 => ⟨by simp, fun p H2 np s2 ep => ?_⟩, fun hit => outI hit _ fun y5 H2 p s2 h2 => fin y5 H2 p _ (toldD_item hit) s2 h2⟩
      subst e'
      refine fin none H2 p _ (toldD_int i0 i1 hg) (s1.trans s2) ?_
      rw [if_pos hd0]
      exact ⟨Same.free s1 np, _, _, _, ep, rfl, .inl ⟨_, rfl, rfl⟩⟩
    · have hd0 : door ≠ 0 := fun z => e0 (decide_eq_true (by rw [z]))
      refine ⟨_, rfl, _, rfl, _, rfl, D, sv, iv, uv, d, e, rows, grps, rfl, hs, hi, hu, ⟨c, hD⟩, hrl, fun g hg => ⟨(hgl g hg).1, fun p hp => ⟨((hgl g hg).2 p hp).1, ((hgl g hg).2 p hp).2.1⟩⟩, fun i g e' i0 i1 hg => ⟨fun u eu u0 u1 H1 s1 => ⟨by simp, fun p H2 np s2 ep => ?_⟩, fun hb => ?_⟩,
        fun hit => outI hit _ fun y5 H2 p s2 h2 => fin y5 H2 p _ (toldD_item hit) s2 h2⟩
      · subst e'
        subst eu
        refine fin none H2 p _ (toldD_int i0 i1 hg) (s1.trans s2) ?_
        have hb : btw (.int u) 0 (capG g) = true := decide_eq_true ⟨u0, u1⟩
        rw [if_neg hd0, if_pos hb]
        exact ⟨Same.free s1 np, _, _, _, ep, rfl, .inl ⟨_, rfl, rfl⟩⟩
      · subst e'
        refine outU _ fun y5 H2 p s2 h2 => fin y5 H2 p _ ?_ s2 h2
        rw [toldD_int i0 i1 hg, if_neg hd0, if_neg (by rw [hb]; simp)]

end
end My

namespace My
open PySem PySem.Spec PyProof.Rows L2
def sp_q_due : Sp := fun vs H Q _ => ∃ (D : Dk) (c : Nat) (sv iv uv : V) (d e : PyData) (rows : List Gs) (grps : List Grp), vs = [sv, iv, uv] ∧ D.On H c ∧ Fz H sv (sysD rows grps) ∧ Hd D H iv d ∧ Hd D H uv e ∧
  rows.length ≤ 900 ∧ (∀ g ∈ rows, g.length ≤ 900 ∧ ∀ p ∈ g, 0 ≤ p.1 ∧ p.1 < 2 ^ 60 ∧ -100 ≤ p.2 ∧ p.2 ≤ 100) ∧ ∀ H' v, Same H H' → Hd D H' v (.list [toldD 0 d e rows, toldD 1 d e rows]) → Q v H'
theorem wholeD_int {d : PyData} (h : wholeD d = true) : ∃ i, d = .int i := by
  cases d with
  | int i => exact ⟨i, rfl⟩
  | _ => cases h
theorem hd_two {D : Dk} {H H1 H2 H3 : Hp} {c : Nat} {p1 p2 p3 : Addr} {x1 x2 : List V} {d1 d2 : List PyData} (o : D.On H c) (n1 : H p1 = none) (s1 : Same H H1) (e1 : H1 p1 = some (.lst x1)) (n2 : H1 p2 = none) (s2 : Same H1 H2) (e2 : H2 p2 = some (.lst x2)) (n3 : H2 p3 = none) (s3 : Same H2 H3)
    (e3 : H3 p3 = some (.lst [.ref p1, .ref p2])) (h1 : HdAll D H3 x1 d1) (h2 : HdAll D H3 x2 d2) : Hd D H3 (.ref p3) (.list [.list d1, .list d2]) := by
  have s12 := s1.trans s2
  exact hd_list (o.same s12) n3 e3 (.cons (hd_list o n1 (s3 _ _ (s2 _ _ e1)) h1) (.cons (hd_list (o.same s1) n2 (s3 _ _ e2) h2) .nil))
section
variable {P : Program} {w : World} {K : PySem.W.Frag} {mg : Str → Option Value} {base : Heap}
theorem ok_q_due (T : Txt K mg) : FnOk P w K mg base CX0 2 T.a_q_due T.d_q_due p_q_due sp_q_due := by
  have G_q_whole : FnOk P w K mg base CX0 1 T.a_q_whole T.d_q_whole p_q_whole sp_q_whole := ok_q_whole T
  have G_q_capacity : FnOk P w K mg base CX0 1 T.a_q_capacity T.d_q_capacity p_q_capacity sp_cap := ok_q_capacity T
  have G_q_worth : FnOk P w K mg base CX0 1 T.a_q_worth T.d_q_worth p_q_worth sp_q_worth := ok_q_worth T
  refine T.F_q_due.ok sc_q_due (fun vs H Q E h => ?_) (fun cdv A outer s H vs Q E hr h => ?_)
  · obtain ⟨D, c, sv, iv, uv, d, e, rows, grps, rfl, _⟩ := h
    rfl
  · obtain ⟨D, c, sv, iv, uv, d, e, rows, grps, rfl, hD, hs, hi, hu, hrl, hgl, q⟩ := h
    obtain ⟨a, b, cc, xr, xg, rfl, ea, eb, fr, ec, fg⟩ := sys_parts hs
    have lxr : xr.length = rows.length := by rw [fr.len, List.length_map]
    refine ⟨_, (pss_cons (ps_if (PW.pt (pw_or (pt_not (pt_val (pe_call G_q_whole (hr.mono (by decide)) (by rfl) T.g_q_whole T.F_q_whole.kp T.b_q_whole .nil pass0 (pa_cons (pv 1) pa_nil)))) (pw_or1 (pt_not (pt_chain op_le op_lt pe_int (pv 1) (pe_callB call_lenF (by rfl) T.m_len PySem.boot_len (pa_cons (pe_ix ix_F (pv 0) pe_int (fun _ _ => rfl)) pa_nil)))))))
(pss_one (ps_ret (pe_lstF (pa_cons (pe_lstF (pa_cons pe_str (pa_cons (pv 1) pa_nil))) (pa_cons (pe_lstF (pa_cons pe_str (pa_cons (pv 1) pa_nil))) pa_nil)))))
pss_nil)
(pss_cons (ps_set (i := 3) sc_q_due.nd rfl (.inl rfl) (pe_call G_q_capacity (hr.mono (by decide)) (by rfl) T.g_q_capacity T.F_q_capacity.kp T.b_q_capacity .nil pass0 (pa_cons (pe_ix ix_F (pe_ix ix_F (pv 0) pe_int (fun _ _ => rfl)) (pv 1) (fun _ _ => rfl)) pa_nil)))
(pss_cons (ps_if (PW.pt (pw_or (pt_not (pt_val (pe_call G_q_whole (hr.mono (by decide)) (by rfl) T.g_q_whole T.F_q_whole.kp T.b_q_whole .nil pass0 (pa_cons (pv 2) pa_nil)))) (pw_or1 (pt_not (pt_chain op_le op_le pe_int (pv 2) (pv 3))))))
(pss_one (ps_ret (pe_lstF (pa_cons (pe_lstF (pa_cons pe_str (pa_cons (pv 3) pa_nil))) (pa_cons (pe_lstF (pa_cons pe_str (pa_cons (pv 2) pa_nil))) pa_nil)))))
pss_nil)
(pss_one (ps_ret (pe_lstF (pa_cons (pe_lstF (pa_cons pe_str (pa_cons (pv 3) pa_nil))) (pa_cons (pe_lstF (pa_cons pe_str (pa_cons (pe_call G_q_worth (hr.mono (by decide)) (by rfl) T.g_q_worth T.F_q_worth.kp T.b_q_worth .nil pass0 (pa_cons (pe_ix ix_F (pe_ix ix_F (pv 0) pe_int (fun _ _ => rfl)) (pv 1) (fun _ _ => rfl)) (pa_cons (pv 2) pa_nil))) pa_nil))) pa_nil)))))))), ?_⟩
    have bad : itemD d rows.length = false → ∀ {R : VK}, (∀ H' v, Same H H' → Hd D H' v (.list [.list [.str "item", d], .list [.str "item", d]]) → R v H') → True := fun _ _ _ => trivial
    refine ⟨_, rfl, D, iv, d, rfl, hi, _, rfl, ?_⟩
    have no : itemD d rows.length = false → ∀ p1 H1, H p1 = none → Same H H1 → H1 p1 = some (.lst [.str "item", iv]) → ∀ p2 H2, H1 p2 = none → Same H1 H2 → H2 p2 = some (.lst [.str "item", iv]) → ∀ p3 H3, H2 p3 = none → Same H2 H3 → H3 p3 = some (.lst [.ref p1, .ref p2]) → Q (.ref p3) H3 := by
      intro hit p1 H1 n1 s1 e1 p2 H2 n2 s2 e2 p3 H3 n3 s3 e3
      have sA : Same H H3 := (s1.trans s2).trans s3
      have hi3 := hi.keep hD (Same.keep sA)
      refine q H3 _ sA ?_
      rw [toldD_item hit, toldD_item hit]
      exact hd_two hD n1 s1 e1 n2 s2 e2 n3 s3 e3 (.cons (.str _) (.cons hi3 .nil)) (.cons (.str _) (.cons hi3 .nil))
    cases hw : wholeD d with
    | false =>
      have hit : itemD d rows.length = false := by
        cases d with
        | int i => cases hw
        | _ => rfl
      refine iteT (iteT ?_)
      exact ⟨_, rfl, by simp, fun p1 H1 n1 s1 e1 => ⟨_, rfl, by simp, fun p2 H2 n2 s2 e2 => ⟨by simp, fun p3 H3 n3 s3 e3 => no hit p1 H1 n1 s1 e1 p2 H2 n2 s2 e2 p3 H3 n3 s3 e3⟩⟩⟩
    | true =>
      obtain ⟨i, rfl⟩ := wholeD_int hw
      obtain rfl := hi.intE
      refine iteF ⟨_, rfl, _, _, rfl, rfl, _, rfl, ite2 (fun c0 => ?_) (fun c0 => ?_)⟩
      · have i0 : 0 ≤ i := of_decide_eq_true c0
        refine ⟨_, rfl, a, _, 0, _, rfl, rfl, .inr ea, at0, b, xr, rfl, .inr eb, _, _, rfl, rfl, _, rfl, ?_⟩
        rw [lxr]
        by_cases i1 : i < (rows.length : Int)
        · rw [decide_eq_true i1]
          refine iteF ?_
          obtain ⟨v, hv1, hv2⟩ := at_of (xs := xr) (r := i) lxr i0 i1
          obtain ⟨g, hg1, hg2⟩ := row_of fr hv2
          have hgm := List.mem_of_getElem? hg1
          obtain ⟨hgl1, hgl2⟩ := hgl g hgm
          refine ⟨_, rfl, a, _, 0, _, rfl, rfl, .inr ea, at0, _, rfl, b, xr, i, v, rfl, rfl, .inr eb, hv1, v, g, rfl, hg2, hgl1, fun H1 s1 => ?_⟩
          have hu1 := hu.keep hD (Same.keep s1)
          refine ⟨_, rfl, D, uv, e, rfl, hu1, _, rfl, ?_⟩
          have no2 : btw e 0 (capG g) = false → ∀ p1 H2, H1 p1 = none → Same H1 H2 → H2 p1 = some (.lst [.str "told", .int (capG g)]) → ∀ p2 H3, H2 p2 = none → Same H2 H3 → H3 p2 = some (.lst [.str "units", uv]) → ∀ p3 H4, H3 p3 = none → Same H3 H4 → H4 p3 = some (.lst [.ref p1, .ref p2]) → Q (.ref p3) H4 := by
            intro hb p1 H2 n1 s2 e1 p2 H3 n2 s3 e2 p3 H4 n3 s4 e3
            have sA : Same H H4 := s1.trans ((s2.trans s3).trans s4)
            refine q H4 _ sA ?_
            rw [toldD_int i0 i1 hg1, toldD_int i0 i1 hg1, if_pos rfl, if_neg (by decide), if_neg (by rw [hb]; simp)]
            exact hd_two (hD.same s1) n1 s2 e1 n2 s3 e2 n3 s4 e3 (.cons (.str _) (.cons (.int _) .nil)) (.cons (.str _) (.cons (hu.keep hD (Same.keep sA)) .nil))
          cases hw2 : wholeD e with
          | false =>
            have hb : btw e 0 (capG g) = false := by
              cases e with
              | int i => cases hw2
              | _ => rfl
            refine iteT (iteT ?_)
            exact ⟨_, rfl, by simp, fun p1 H2 n1 s2 e1 => ⟨_, rfl, by simp, fun p2 H3 n2 s3 e2 => ⟨by simp, fun p3 H4 n3 s4 e3 => no2 hb p1 H2 n1 s2 e1 p2 H3 n2 s3 e2 p3 H4 n3 s4 e3⟩⟩⟩
          | true =>
            obtain ⟨u, rfl⟩ := wholeD_int hw2
            obtain rfl := hu.intE
            refine iteF ⟨_, rfl, _, _, rfl, rfl, _, rfl, ite2 (fun c1 => ?_) (fun c1 => ?_)⟩
            · have u0 : 0 ≤ u := of_decide_eq_true c1
              refine ⟨_, rfl, _, _, rfl, rfl, _, rfl, ?_⟩
              by_cases u1 : u ≤ capG g
              · rw [decide_eq_true u1]
                refine iteF ?_
                refine ⟨_, rfl, by simp, fun p1 H2 n1 s2 e1 => ?_⟩
                have s12 := s1.trans s2
                refine ⟨_, rfl, a, _, 0, _, rfl, rfl, .inr (s12 _ _ ea), at0, _, rfl, b, xr, i, v, rfl, rfl, .inr (s12 _ _ eb), hv1, _, rfl, v, g, u, rfl, hg2.tk (Same.tk s12), hgl1, hgl2, u0, fun H3 s3 => ⟨by simp, fun p2 H4 n2 s4 e2 => ⟨by simp, fun p3 H5 n3 s5 e3 => ?_⟩⟩⟩
                have s34 := s3.trans s4
                have sA : Same H H5 := (s12.trans s34).trans s5
                refine q H5 _ sA ?_
                have hb : btw (.int u) 0 (capG g) = true := decide_eq_true ⟨u0, u1⟩
                rw [toldD_int i0 i1 hg1, toldD_int i0 i1 hg1, if_pos rfl, if_neg (by decide), if_pos hb]
                exact hd_two (hD.same s1) n1 s2 e1 (Same.free s3 n2) s34 e2 n3 s5 e3 (.cons (.str _) (.cons (.int _) .nil)) (.cons (.str _) (.cons (.int _) .nil))
              · rw [decide_eq_false u1]
                have hb : btw (.int u) 0 (capG g) = false := decide_eq_false fun z => u1 z.2
                refine iteT ?_
                exact ⟨_, rfl, by simp, fun p1 H2 n1 s2 e1 => ⟨_, rfl, by simp, fun p2 H3 n2 s3 e2 => ⟨by simp, fun p3 H4 n3 s4 e3 => no2 hb p1 H2 n1 s2 e1 p2 H3 n2 s3 e2 p3 H4 n3 s4 e3⟩⟩⟩
            · have hb : btw (.int u) 0 (capG g) = false := decide_eq_false fun z => c1 (decide_eq_true z.1)
              refine ⟨_, rfl, iteT ?_⟩
              exact ⟨_, rfl, by simp, fun p1 H2 n1 s2 e1 => ⟨_, rfl, by simp, fun p2 H3 n2 s3 e2 => ⟨by simp, fun p3 H4 n3 s4 e3 => no2 hb p1 H2 n1 s2 e1 p2 H3 n2 s3 e2 p3 H4 n3 s4 e3⟩⟩⟩
        · rw [decide_eq_false i1]
          have hit : itemD (.int i) rows.length = false := decide_eq_false fun z => i1 (by omega)
          refine iteT ?_
          exact ⟨_, rfl, by simp, fun p1 H1 n1 s1 e1 => ⟨_, rfl, by simp, fun p2 H2 n2 s2 e2 => ⟨by simp, fun p3 H3 n3 s3 e3 => no hit p1 H1 n1 s1 e1 p2 H2 n2 s2 e2 p3 H3 n3 s3 e3⟩⟩⟩
      · have hit : itemD (.int i) rows.length = false := decide_eq_false fun z => c0 (decide_eq_true z.1)
        refine ⟨_, rfl, iteT ?_⟩
        exact ⟨_, rfl, by simp, fun p1 H1 n1 s1 e1 => ⟨_, rfl, by simp, fun p2 H2 n2 s2 e2 => ⟨by simp, fun p3 H3 n3 s3 e3 => no hit p1 H1 n1 s1 e1 p2 H2 n2 s2 e2 p3 H3 n3 s3 e3⟩⟩⟩
end
end My

namespace My
open PySem PySem.Spec PyProof.Rows L2
section
variable {X : Cx} {pins : List (Addr × Obj)} {σ : L2.St} {H : Hp} {s : Shared} {D : Dk}
theorem dict0 (I : Inv X pins σ H s) {a : Addr} (h : H a = some (.dK [])) : (a == sysModules) = false ∧ ∃ o n, s.heap.get? a = some o ∧ o.cls = .type "dict" ∧ o.data = .dict #[] n := by
  obtain ⟨_, ns, kvs, rel, o, es, ep, e1, e2, e3, e4, e5, _⟩ := (show ObjOk X.prog X.w H s.heap a (.dK []) from I.hok a _ h)
  cases rel
  have e6 : es.toList = [] := by
    cases hq : es.toList with
    | nil => rfl
    | cons x r =>
      rw [hq] at e5
      cases e5
  obtain ⟨l⟩ := es
  have e7 : l = [] := e6
  subst e7
  exact ⟨ns, o, ep, e1, e2.1, e3⟩
/-- what repr gives of a value -/
def Shows (X : Cx) (s : Shared) (u : Value) (d : PyData) : Prop := ∃ as bs, Reads s.heap u d as ∧ ReadAtMost s.heap d.depth bs ∧ ReprK X.prog X.w bs s.heap d.depth u d.shown
def ShowsAll (X : Cx) (s : Shared) (us : List Value) (ds : List PyData) : Prop := ∃ as bs, ReadsAll s.heap us ds as ∧ ReadAtMost s.heap (PyData.depthAll ds) bs ∧ ReprAllK X.prog X.w bs s.heap (PyData.depthAll ds) us (PyData.shownAll ds)
mutual
theorem Hd.shows (I : Inv X pins σ H s) : ∀ (d : PyData) (v : V) (u : Value), Hd D H v d → RelV v u → d.showable = true → d.shown.length ≤ sizeLine → Shows X s u d
  | .none, _, _, h, r, _, _ => by
    cases h
    cases r
    exact ⟨_, [], .none, (fun _ z => nomatch z), by simp only [PyData.shown]; exact .of_is ReprIs.none _ _ _⟩
  | .bool b, _, _, h, r, _, _ => by
    cases h
    cases r
    exact ⟨_, [], .bool b, (fun _ z => nomatch z), by simp only [PyData.shown]; exact .of_is (ReprIs.bool b) _ _ _⟩
  | .int i, _, _, h, r, hs, _ => by
    cases h
    obtain ⟨t, rfl⟩ := r
    exact ⟨_, [], .int i t, (fun _ z => nomatch z), by simp only [PyData.shown]; exact .of_is (ReprIs.int t (by simpa [PyData.showable] using hs)) _ _ _⟩
  | .str x, _, _, h, r, _, hz => by
    cases h
    obtain ⟨t, rfl⟩ := r
    exact ⟨_, [], .str x t, (fun _ z => nomatch z), by simp only [PyData.shown]; exact .of_is (ReprIs.str x t (by simpa only [PyData.shown] using hz)) _ _ _⟩
  | .list ds, _, _, h, r, hs, hz => by
    cases h with
    | @lst a xs _ e n1 n2 k =>
      cases r
      obtain ⟨_, its, n, rv, ho⟩ := (show ObjOk X.prog X.w H s.heap a (.lst xs) from I.hok a _ e)
      have hz2 : (listText (PyData.shownAll ds)).length ≤ sizeLine := by simpa only [PyData.shown] using hz
      obtain ⟨as, bs, rd, rm, kk⟩ := HdAll.shows I ds xs its k rv (by simpa [PyData.showable] using hs) fun t ht => Nat.le_trans (listText_mem_le ht) hz2
      have whole : Reads s.heap (.ref a) (.list ds) _ := .list (vs := its.toArray) ho rfl rfl (by simpa using rd)
      have out : a ∉ bs := not_mem_of_deeper whole (by simp only [PyData.depth]; omega) rm
      refine ⟨_, a :: bs, whole, ReadAtMost.cons whole (by simp only [PyData.depth]; omega) rm, ?_⟩
      simp only [PyData.depth, PyData.shown]
      cases its with
      | nil =>
        cases rd
        simp only [PyData.shownAll, listText_nil]
        exact ReprK.listEmpty ho rfl rfl
      | cons y l => exact ReprK.list ho rfl rfl out (by simpa using kk.length_eq) fun i z ez => kk.item i z (by simpa using ez)
  | .tuple ds, _, _, h, r, hs, hz => by
    cases h with
    | @tup a xs _ e k =>
      cases r
      obtain ⟨_, its, rv, o, ho, hc, n, hd⟩ := (show ObjOk X.prog X.w H s.heap a (.tup xs) from I.hok a _ e)
      have hz2 : (tupleText (PyData.shownAll ds)).length ≤ sizeLine := by simpa only [PyData.shown] using hz
      obtain ⟨as, bs, rd, rm, kk⟩ := HdAll.shows I ds xs its k rv (by simpa [PyData.showable] using hs) fun t ht => Nat.le_trans (tupleText_mem_le ht) hz2
      have whole : Reads s.heap (.ref a) (.tuple ds) _ := .tuple (vs := its.toArray) ho hc hd (by simpa using rd)
      have out : a ∉ bs := not_mem_of_deeper whole (by simp only [PyData.depth]; omega) rm
      refine ⟨_, a :: bs, whole, ReadAtMost.cons whole (by simp only [PyData.depth]; omega) rm, ?_⟩
      simp only [PyData.depth, PyData.shown]
      exact ReprK.tuple ho hc hd out (by simpa using kk)
  | .dict kvs, _, _, h, r, hs, hz => by
    cases h with
    | @dct a e =>
      cases r
      obtain ⟨ns, o, n, ho, hc, hd⟩ := dict0 I e
      have whole : Reads s.heap (.ref a) (.dict []) _ := .dict (es := #[]) ho hc hd .nil .nil
      refine ⟨_, a :: [], whole, ReadAtMost.cons whole (Nat.zero_le _) (fun _ z => nomatch z), ?_⟩
      simp only [PyData.depth, PyData.shown, PyData.shownKv_eq]
      exact ReprK.dict ho hc hd ns (by simp) (ReprEntriesK.of_two [] [] [] .nil .nil)
theorem HdAll.shows (I : Inv X pins σ H s) : ∀ (ds : List PyData) (vs : List V) (us : List Value), HdAll D H vs ds → Vals vs us → PyData.showableAll ds = true → (∀ t ∈ PyData.shownAll ds, t.length ≤ sizeLine) → ShowsAll X s us ds
  | [], _, _, h, r, _, _ => by
    cases h
    cases r
    exact ⟨_, [], .nil, (fun _ z => nomatch z), by simp only [PyData.shownAll]; exact .nil⟩
  | d :: ds, _, _, h, r, hs, hz => by
    cases h with
    | cons h1 h2 =>
      cases r with
      | cons r1 r2 =>
        have hs2 : d.showable = true ∧ PyData.showableAll ds = true := by simpa [PyData.showableAll] using hs
        obtain ⟨as1, bs1, q1, m1, k1⟩ := Hd.shows I d _ _ h1 r1 hs2.1 (hz _ (by simp only [PyData.shownAll]; exact List.mem_cons_self))
        obtain ⟨as2, bs2, q2, m2, k2⟩ := HdAll.shows I ds _ _ h2 r2 hs2.2 fun t ht => hz t (by simp only [PyData.shownAll]; exact List.mem_cons_of_mem _ ht)
        refine ⟨_, bs1 ++ bs2, .cons q1 q2, ?_, ?_⟩
        · simp only [PyData.depthAll]
          exact (m1.mono (Nat.le_max_left _ _)).append (m2.mono (Nat.le_max_right _ _))
        · simp only [PyData.depthAll, PyData.shownAll]
          exact .cons ((k1.more fun b z => List.mem_append_left _ z).level_le (Nat.le_max_left _ _)) (k2.more_le (fun b z => List.mem_append_right _ z) (Nat.le_max_right _ _))
end
end
section
variable {X : Cx}
/-- repr(x) of a list or a tuple -/
def rRepr : List V → Hp → VK → Prop := fun xs H Q => ∃ (D : Dk) (v : V) (ds : List PyData) (d : PyData), (d = .list ds ∨ d = .tuple ds) ∧ xs = [v] ∧ Hd D H v d ∧ d.showable = true ∧ d.depth ≤ 60 ∧ d.shown.length ≤ sizeLine ∧ Q (.str d.shown) H
theorem call_repr (hG : X.A.guards = some []) (hu : X.A.units + 64 < cLine) : CallR X (.builtin "repr") rRepr := by
  intro pins s σ H xs us Q I r h
  obtain ⟨D, v, ds, d, hd, rfl, hv, hs, hdp, hz, q⟩ := h
  obtain ⟨u, rfl, ru⟩ := vals1 r
  rcases hd with rfl | rfl
  · cases hv with
    | @lst a xs _ e n1 n2 k =>
      cases ru
      obtain ⟨_, its, n, rv, ho⟩ := (show ObjOk X.prog X.w H s.heap a (.lst xs) from I.hok a _ e)
      have hz2 : (listText (PyData.shownAll ds)).length ≤ sizeLine := by simpa only [PyData.shown] using hz
      obtain ⟨as, bs, rd, rm, kk⟩ := HdAll.shows I ds xs its k rv (by simpa [PyData.showable] using hs) fun t ht => Nat.le_trans (listText_mem_le ht) hz2
      have whole : Reads s.heap (.ref a) (.list ds) _ := .list (vs := its.toArray) ho rfl rfl (by simpa using rd)
      have out : a ∉ bs := not_mem_of_deeper whole (by simp only [PyData.depth]; omega) rm
      have e1 : (PyData.list ds).depth = PyData.depthAll ds + 1 := by simp only [PyData.depth]
      have e2 : (PyData.list ds).shown = listText (PyData.shownAll ds) := by simp only [PyData.shown]
      rw [e2] at q
      refine call_repr_slot (by omega) ⟨_, ho, rfl⟩ F.slot_list_repr.toG ?_
      cases its with
      | nil =>
        cases rd
        simp only [PyData.shownAll, listText_nil] at q
        exact call_list_repr_empty ⟨_, ho, rfl⟩ ho rfl ⟨_, _, rfl, .str _, H, I.tok _, ⟨_, rfl⟩, q⟩
      | cons y l =>
        exact call_list_reprK (A := X.A.in1) ho rfl rfl out (by simpa using kk.length_eq) (fun i z ez => kk.item i z (by simpa using ez)) hG (fun b _ => Clear.nil b) (by show X.A.units + 1 + _ < cLine; omega) (fun _ _ z => z)
          (fun h' u' tk hk => ⟨_, _, rfl, .str _, H, I.kept hk, ⟨_, rfl⟩, q⟩) hz2
  · cases hv with
    | @tup a xs _ e k =>
      cases ru
      obtain ⟨_, its, rv, o, ho, hc, n, hd⟩ := (show ObjOk X.prog X.w H s.heap a (.tup xs) from I.hok a _ e)
      have hz2 : (tupleText (PyData.shownAll ds)).length ≤ sizeLine := by simpa only [PyData.shown] using hz
      obtain ⟨as, bs, rd, rm, kk⟩ := HdAll.shows I ds xs its k rv (by simpa [PyData.showable] using hs) fun t ht => Nat.le_trans (tupleText_mem_le ht) hz2
      have whole : Reads s.heap (.ref a) (.tuple ds) _ := .tuple (vs := its.toArray) ho hc hd (by simpa using rd)
      have out : a ∉ bs := not_mem_of_deeper whole (by simp only [PyData.depth]; omega) rm
      have e1 : (PyData.tuple ds).depth = PyData.depthAll ds + 1 := by simp only [PyData.depth]
      have e2 : (PyData.tuple ds).shown = tupleText (PyData.shownAll ds) := by simp only [PyData.shown]
      rw [e2] at q
      refine call_repr_slot (by omega) ⟨_, ho, hc⟩ F.slot_tuple_repr ?_
      exact call_tuple_reprK (A := X.A.in1) ho hc hd out (by simpa using kk) hG (fun b _ => Clear.nil b) (by show X.A.units + 1 + _ < cLine; omega) (fun _ _ z => z)
        (fun h' u' tk hk => ⟨_, _, rfl, .str _, H, I.kept hk, ⟨_, rfl⟩, q⟩) hz2
end
end My

namespace My
open PySem PySem.Spec PyProof.Rows L2
/-- as FnOk, where it is called with no guard around -/
def FnG (P : Program) (w : World) (K : PySem.W.Frag) (mg : Str → Option Value) (base : Heap) (CX : CXT) (k : Nat) (f : Addr) (fd : FuncData) (ps : List Str) (sp : Sp) : Prop :=
  ∀ (B : Around) (outer : List Env) (s : Shared) (H : Hp) (args : Args) (us : List Value) (vs : List V) (Q : VK) (E : XK), B.guards = some [] → Room k B → Env0 P w K mg base B outer s H → BindsTo s fd args (ps.zip us) → Vals vs us → sp vs H Q E →
    codeAny (model P w) B (.call (.ref f) args) (CR CX outer P w H s Q E) s
theorem fun_okG {CX : CXT} {P : Program} {w : World} {K : PySem.W.Frag} {mg : Str → Option Value} {base : Heap} {x qual : Str} {st : Stmt} {f : Addr} {fd : FuncData} {N ps : List Str} {k : Nat} {sp : Sp} (F : Fun K x qual st f fd) (S : FnScope N ps (defScope st))
    (len : ∀ vs H Q E, sp vs H Q E → vs.length = ps.length)
    (body : ∀ (cdv : Value) (B : Around) (outer : List Env) (s : Shared) (H : Hp) (vs : List V) (Q : VK) (E : XK), B.guards = some [] → Room k (B.deeper (envOfC qual (defScope st) s.heap.objs.size f cdv)) → sp vs H Q E →
      ∃ t, PSs (cxOf CX P w K mg base N qual (defScope st) f cdv B outer s H E) (defBody st) t ∧ t { nx := fun _ H' => Q .non H', rt := Q } (start N vs) H) : FnG P w K mg base CX (k + 1) f fd ps sp := by
  intro B outer s H args us vs Q E gd hr env hb rel hsp
  obtain ⟨oc, od, kV, doc, pm, an, cdv, ct, osl, rfl, look, isCode⟩ := F.ex
  have many := len _ _ _ _ hsp
  have inK : K.In s.heap := env.mod.kin.keeps fun b o e => (env.bs b o e).1
  have noLim : s.heap.NoLimit := env.mod.nolimit.keeps fun b o e => (env.bs b o e).1
  have kinds : ∀ y ∈ ps.zip us, (defScope st).names.lookup y.1 = some .local ∨ ((defScope st).names.lookup y.1 = some .cell ∧ ((cellsFrom (s.heap.objs.size + 1) (defScope st).names []).lookup y.1).isSome = true) := by
    rintro ⟨n, v⟩ hy
    rcases S.par n (List.of_mem_zip hy).1 with q | q
    · exact .inl q
    · exact .inr ⟨q, PySem.W.cellsFrom_some _ _ _ (.inl q)⟩
  refine codeAny_call_function hr.depth (inK _ _ look) rfl S.co S.gen rfl (PySem.W.codeRec_of inK isCode) (hb _ _ _ _ (wpAny_newFunctionEnv_cells S.kind kinds ?_))
  intro env' he s1 ic
  subst he
  obtain ⟨t, derived, asked⟩ := body cdv B outer s H vs Q E gd (hr.deeper _) hsp
  have I : Inv (cxOf CX P w K mg base N qual (defScope st) f cdv B outer s H E) [] (start N vs) H s1 := inv_start S hr.hd env many rel ic
  refine ⟨noLim.keeps ic.toInCall.keep, codeAny_func (wpAny_mono (derived.run [] s1 (start N vs) H _ I asked) (fun fl s' end_ => ?_) fun e s' z => z)⟩
  cases fl with
  | ret u =>
    obtain ⟨v, σ', H', J, rv, q⟩ := end_
    exact ⟨v, H', J.os, J.bare, J.base, J.hok, rv, q⟩
  | next =>
    obtain ⟨σ', H', J, q⟩ := end_
    exact ⟨V.non, H', J.os, J.bare, J.base, J.hok, (rfl : RelV V.non Value.none), q⟩
  | brk => exact (end_.choose_spec.choose_spec.2 : False).elim
  | cont => exact (end_.choose_spec.choose_spec.2 : False).elim
/-- the law's own call, behind the top -/
theorem callG {P : Program} {w : World} {K : PySem.W.Frag} {mg mb : Str → Option Value} {CX : CXT} {k : Nat} {fa sc : Addr} {fd : FuncData} {x : Str} {sp : Sp} {s₁ : Shared} {us : List Value} {ns : List Int}
    (inK : K.In s₁.heap) (nsG : s₁.heap.Ns mainGlobals mg) (nsB : s₁.heap.Ns builtinsNs mb) (isB : ∀ x : Str, x ≠ "__name__" → mb x = bootBuiltins x) (noLim : s₁.heap.NoLimit) (noGen : s₁.gens = #[])
    (hsc : s₁.heap.get? sc = some { cls := .type "list", data := .seq us.toArray }) (hints : IntsAre us ns) (short : ns.length ≤ sizeLine) (room : Room k callerA)
    (F : ∀ base : Heap, K.In base → base.Ns mainGlobals mg → FnG P w K mg base CX k fa fd [x] sp) (hbind : ∀ (s : Shared) (u : Value), BindsTo s fd ⟨[u], []⟩ [(x, u)])
    (hsp : ∀ H : Hp, SqL K H sc (ns.map V.int) → sp [.ref sc] H (fun v _ => v = .bl true) fun _ _ _ => False) (noE : ∀ H e s', CX [] H s₁ (fun _ _ _ => False) e s' → False) :
    codeAny (model P w) callerA (.call (.ref fa) ⟨[.ref sc], []⟩) (fun r s' => r = .ok (.ret (.bool true)) ∧ OldK s₁.heap s'.heap ∧ s'.os = s₁.os ∧ AllBare s'.gens) s₁ := by
  have rel := vals_ints hints
  have same := hints.length
  -- H tracks at most the script, locked
  have main : ∀ H : Hp, (∀ b, H b = none ∨ (b = sc ∧ K.lookup sc = none ∧ ∃ o xs, H b = some (.frz o (.lst xs)))) → SqL K H sc (ns.map V.int) → HOk P w H s₁.heap →
      codeAny (model P w) callerA (.call (.ref fa) ⟨[.ref sc], []⟩) (fun r s' => r = .ok (.ret (.bool true)) ∧ OldK s₁.heap s'.heap ∧ s'.os = s₁.os ∧ AllBare s'.gens) s₁ := by
    intro H only held ok
    have low : ∀ {b : Addr} {o : Obj}, s₁.heap.get? b = some o → H b = none → (hidT s₁.heap H).get? b = some o := fun e n => hidT_get e n
    have notDict : ∀ {b : Addr} {o : Obj} {es : Array DictEntry} {ep : Nat}, s₁.heap.get? b = some o → o.data = .dict es ep → H b = none := by
      intro b o es ep e d
      rcases only b with z | ⟨z, _, _⟩
      · exact z
      · subst z
        rw [hsc] at e
        cases e
        cases (show Data.seq us.toArray _ = Data.dict es ep from d)
    have nsLow : ∀ {b : Addr} {m : Str → Option Value}, s₁.heap.Ns b m → (hidT s₁.heap H).Ns b m := by
      rintro b m ⟨o, es, ep, e, d, r⟩
      exact ⟨o, es, ep, low e (notDict e d), d, r⟩
    have inLow : K.In (hidT s₁.heap H) := by
      intro b o e
      refine low (inK b o e) ?_
      rcases only b with z | ⟨z, n, _⟩
      · exact z
      · subst z
        rw [n] at e
        cases e
    have md : Mod K mg (hidT s₁.heap H) := ⟨inLow, nsLow nsG, ⟨mb, nsLow nsB, isB⟩, let ⟨mc, q1, q2⟩ := noLim; ⟨mc, nsLow q1, q2⟩⟩
    have env : Env0 P w K mg (hidT s₁.heap H) callerA [] s₁ H := ⟨rfl, md, fun b o e => of_hidT e, Nat.le_of_eq (hidT_size _ _), trivial, fun b hb => absurd (show b ∈ ([] : List Addr) from hb) (by simp), ok, .of_eq noGen⟩
    refine codeAny_mono (F _ inLow (nsLow nsG) callerA [] s₁ H ⟨[.ref sc], []⟩ [.ref sc] [.ref sc] _ _ rfl room env (hbind s₁ (.ref sc)) (.cons rfl .nil) (hsp H held)) ?_
    intro r s' h
    cases r with
    | error e => exact (noE H e s' h).elim
    | ok fl =>
      cases fl with
      | next => exact (h : False).elim
      | brk => exact (h : False).elim
      | cont => exact (h : False).elim
      | ret u =>
        obtain ⟨v, H', os, bare, un, ok', ru, q⟩ := h
        obtain rfl : v = .bl true := q
        obtain rfl : u = Value.bool true := ru
        refine ⟨rfl, OldK.of_keep fun b o e => ?_, os, bare⟩
        rcases only b with z | ⟨_, _, ob, xs, z⟩
        · exact un.keep b o e z (fun y => absurd (show b ∈ ([] : List Addr) from y) (by simp)) (by simp)
        · obtain ⟨e1, _⟩ := ok b _ z
          obtain ⟨e2, _⟩ := ok' b _ (un.frzs b ob _ z)
          rw [e] at e1
          cases e1
          exact e2
  cases hk : K.lookup sc with
  | some o =>
    have e := inK sc o hk
    rw [hsc] at e
    cases e
    exact main (fun _ => none) (fun _ => .inl rfl) (.inr ⟨_, us.toArray, _, hk, rfl, rfl, rfl, by rw [List.size_toArray, same]; exact short, by simpa using rel⟩) (fun b u z => by cases (show (none : Option HO) = some u from z))
  | none =>
    refine main (fun b => if b = sc then some (.frz { cls := .type "list", data := .seq us.toArray } (.lst (ns.map V.int))) else none) (fun b => ?_) (.inl (.inr ⟨{ cls := .type "list", data := .seq us.toArray }, if_pos rfl⟩)) (fun b u z => ?_)
    · by_cases hb : b = sc
      · exact .inr ⟨hb, hk, _, _, if_pos hb⟩
      · exact .inl (if_neg hb)
    · by_cases hb : b = sc
      · cases (if_pos hb).symm.trans z
        subst hb
        exact ⟨hsc, by rw [List.length_map]; exact short, us, _, rel, hsc⟩
      · cases (if_neg hb).symm.trans z
/-- the goal that k_head leaves -/
theorem walkG {l : PySem.W.OpenLaw} {n k : Nat} {q : Program} {loose : List Str} {XP : (Str → Option Value) → Heap → Prop} {YP : World → Heap → Prop} {d : DefRec} {K : Params → PySem.W.Frag} {CX : World → CXT} {sp : World → Sp} {x : Str}
    (most : l.most = some n) (fits : n ≤ sizeLine) (plain : d.params.defaults = []) (room : Room k callerA) (inK : ∀ (w : World) (h : Heap), YP w h → (K w.params).In h)
    (F : ∀ (w : World) (mg : Str → Option Value) (fa : Addr) (h : Heap), (K w.params).In h → h.Ns mainGlobals mg → mg d.name = some (.ref fa) → ∃ fd : FuncData, (∀ (s : Shared) (u : Value), BindsTo s fd ⟨[u], []⟩ [(x, u)]) ∧
      ∀ base : Heap, (K w.params).In base → base.Ns mainGlobals mg → FnG l.prog w (K w.params) mg base (CX w) k fa fd [x] (sp w))
    (hsp : ∀ (w : World) (H : Hp) (a : Addr) (ns : List Int), ns.length ≤ n → SqL (K w.params) H a (ns.map V.int) → sp w [.ref a] H (fun v _ => v = .bl true) fun _ _ _ => False)
    (noE : ∀ (w : World) (H : Hp) (s : Shared) (e : Value) (s' : Shared), CX w [] H s (fun _ _ _ => False) e s' → False) : PySem.W.WalkO q loose XP YP l.row.toRowW d [] (fun f vs => PySem.call f vs) := by
  refine Att.attach_call most plain ?_
  intro w s₀ s₁ mg mb fa o pm cd doc a vs ns G Y ho hd hcd hmg hobj hints len gens
  have KX := inK w _ Y
  obtain ⟨fd, hb, hF⟩ := F w mg fa _ KX G.T.g hmg
  exact callG KX G.T.g G.T.b G.T.builtins G.T.nolimit gens hobj hints (Nat.le_trans len fits) room hF hb (fun H hS => hsp w H a ns len hS) fun H e s' => noE w H s₁ e s'
end My

namespace My
open PySem PySem.Spec PyProof.Rows L2
/-! ### data that repr can show -/
structure Tame (k n : Nat) (d : PyData) : Prop where
  sh : d.showable = true
  dp : d.depth ≤ k
  lv : d.leavesShort 70 = true
  bk : d.bulk ≤ n
theorem Tame.mono {k n k' n' : Nat} {d : PyData} (h : Tame k n d) (h1 : k ≤ k') (h2 : n ≤ n') : Tame k' n' d := ⟨h.sh, Nat.le_trans h.dp h1, h.lv, Nat.le_trans h.bk h2⟩
theorem Tame.fits {k n : Nat} {d : PyData} (h : Tame k n d) (hk : k ≤ 60) (hn : n ≤ 200000) : d.showable = true ∧ d.depth ≤ 60 ∧ d.shown.length ≤ sizeLine := by
  refine ⟨h.sh, Nat.le_trans h.dp hk, ?_⟩
  have := PyData.shown_le_bulk 70 (by decide) d h.lv
  have := h.bk
  rw [sizeLine_eq]
  omega
theorem log_lt {a : Nat} (h : a < 10 ^ 60) : a.log2 < 1920 := by
  by_cases h0 : a = 0
  · subst h0
    decide
  · have : a.log2 < 200 := (Nat.log2_lt h0).mpr (Nat.lt_of_lt_of_le h (by decide))
    omega
theorem tame_int {i : Int} (h : i.natAbs < 10 ^ 60) : Tame 0 0 (.int i) := by
  refine ⟨?_, ?_, ?_, ?_⟩
  · simp only [PyData.showable, decide_eq_true_eq]
    exact log_lt h
  · simp [PyData.depth]
  · have h1 := int_text_length_le10 (k := 60) (by decide) h
    have h2 : (PyData.shown (.int i)).length ≤ 70 := by
      have e : PyData.shown (.int i) = Str.ofString (toString i) := by simp only [PyData.shown]
      rw [e, PySem.ofString_length]
      omega
    simp only [PyData.leavesShort]
    exact decide_eq_true h2
  · simp [PyData.bulk]
theorem tame_str {x : Str} (h1 : x.cps.size ≤ 20) (h2 : (x.cps.toList.all fun c => decide (c < 16 ^ 8)) = true) : Tame 0 20 (.str x) :=
  ⟨by simp [PyData.showable], by simp [PyData.depth], by simpa only [PyData.leavesShort] using h2, by simpa only [PyData.bulk] using h1⟩
theorem tame_all {k n : Nat} : ∀ {ds : List PyData}, (∀ d ∈ ds, Tame k n d) → PyData.showableAll ds = true ∧ PyData.depthAll ds ≤ k ∧ PyData.leavesShortAll 70 ds = true ∧ PyData.bulkAll ds ≤ (n + 1) * ds.length
  | [], _ => ⟨by simp [PyData.showableAll], by simp [PyData.depthAll], by simp [PyData.leavesShortAll], by simp [PyData.bulkAll]⟩
  | d :: ds, h => by
    have h1 := h d List.mem_cons_self
    obtain ⟨a, b, c, e⟩ := tame_all fun x hx => h x (List.mem_cons_of_mem _ hx)
    have h2 := h1.dp
    have h3 := h1.bk
    refine ⟨by simp [PyData.showableAll, h1.sh, a], ?_, by simp [PyData.leavesShortAll, h1.lv, c], ?_⟩
    · simp only [PyData.depthAll]
      omega
    · simp only [PyData.bulkAll, List.length_cons, Nat.mul_add, Nat.mul_one]
      omega
theorem tame_tup {k n l : Nat} {ds : List PyData} (h : ∀ d ∈ ds, Tame k n d) (hl : ds.length ≤ l) : Tame (k + 1) ((n + 1) * l) (.tuple ds) := by
  obtain ⟨a, b, c, e⟩ := tame_all h
  refine ⟨by simpa only [PyData.showable] using a, by simp only [PyData.depth]; omega, by simpa only [PyData.leavesShort] using c, ?_⟩
  simp only [PyData.bulk]
  exact Nat.le_trans e (Nat.mul_le_mul_left _ hl)
theorem tame_lst {k n l : Nat} {ds : List PyData} (h : ∀ d ∈ ds, Tame k n d) (hl : ds.length ≤ l) : Tame (k + 1) ((n + 1) * l) (.list ds) := by
  obtain ⟨a, b, c, e⟩ := tame_all h
  refine ⟨by simpa only [PyData.showable] using a, by simp only [PyData.depth]; omega, by simpa only [PyData.leavesShort] using c, ?_⟩
  simp only [PyData.bulk]
  exact Nat.le_trans e (Nat.mul_le_mul_left _ hl)
theorem tame_odd : ∀ d ∈ oddD, Tame 2 20 d := by
  have z : ∀ d ∈ oddD, d.showable = true ∧ d.depth ≤ 2 ∧ d.leavesShort 70 = true ∧ d.bulk ≤ 20 := by decide +kernel
  exact fun d h => ⟨(z d h).1, (z d h).2.1, (z d h).2.2.1, (z d h).2.2.2⟩
theorem tame_sys {great : Int} {items steps : Nat} {rows : List Gs} {grps : List Grp} (h : GoodSys great items steps rows grps) (hi : items ≤ 6) (hs : steps ≤ 5) (hg : great ≤ 10 ^ 11) : Tame 4 2000 (sysD rows grps) := by
  have hp : (10 : Int) ^ 11 = 100000000000 := by decide
  have hp12 : (10 : Int) ^ 12 = 1000000000000 := by decide
  rw [hp] at hg
  have big : ∀ i : Int, -10000000000000 < i → i < 10000000000000 → i.natAbs < 10 ^ 60 := fun i a b => Nat.lt_of_lt_of_le (show i.natAbs < 10000000000000 by omega) (by decide)
  have t1 : ∀ d ∈ rows.map gD, Tame 2 15 d := by
    intro d hd
    rw [List.mem_map] at hd
    obtain ⟨g, hgm, rfl⟩ := hd
    have gg := h.rg g hgm
    refine (tame_tup (k := 1) (n := 2) (l := 5) (fun d hd => ?_) (by rw [List.length_map]; have := gg.len; omega)).mono (Nat.le_refl _) (by decide)
    rw [List.mem_map] at hd
    obtain ⟨p, hp, rfl⟩ := hd
    have a1 := gg.cnt p hp
    have a2 := gg.gn p hp
    refine tame_tup (k := 0) (n := 0) (l := 2) (fun d hd => ?_) (by simp)
    simp only [List.mem_cons, List.not_mem_nil, or_false] at hd
    rcases hd with rfl | rfl
    · exact tame_int (big _ (by omega) (by omega))
    · exact tame_int (big _ (by omega) (by omega))
  have t2 : ∀ d ∈ grps.map grpD, Tame 2 21 d := by
    intro d hd
    rw [List.mem_map] at hd
    obtain ⟨g, hgm, rfl⟩ := hd
    have gm := h.lam.good g.1 (List.mem_map.mpr ⟨g, hgm, rfl⟩)
    have lm := h.lim g hgm
    rw [hp12] at lm
    have r2 := h.r2
    refine (tame_tup (k := 1) (n := 6) (l := 3) (fun d hd => ?_) (by simp)).mono (Nat.le_refl _) (by decide)
    simp only [List.mem_cons, List.not_mem_nil, or_false] at hd
    rcases hd with rfl | rfl | rfl
    · refine (tame_tup (k := 0) (n := 0) (l := 6) (fun d hd => ?_) (by rw [List.length_map]; have := gm.len; omega)).mono (Nat.le_refl _) (by decide)
      rw [List.mem_map] at hd
      obtain ⟨k, hk, rfl⟩ := hd
      have := gm.rg k hk
      exact tame_int (big _ (by omega) (by omega))
    · exact (tame_int (big _ (by omega) (by omega))).mono (by decide) (by decide)
    · exact (tame_int (big _ (by omega) (by omega))).mono (by decide) (by decide)
  have r2 := h.r2
  have l2 := h.lam.len
  rw [List.length_map] at l2
  refine (tame_tup (k := 3) (n := 200) (l := 2) (fun d hd => ?_) (by simp)).mono (by decide) (by decide)
  simp only [List.mem_cons, List.not_mem_nil, or_false] at hd
  rcases hd with rfl | rfl
  · exact (tame_tup t1 (l := 6) (by rw [List.length_map]; omega)).mono (by decide) (by decide)
  · exact (tame_tup t2 (l := 8) (by rw [List.length_map]; omega)).mono (by decide) (by decide)
end My

namespace My
open PySem PySem.Spec PyProof.Rows L2
theorem worth_bd : ∀ (g : Gs) (u : Int), (∀ p ∈ g, 0 ≤ p.1 ∧ p.1 ≤ 100000000000 ∧ -100 ≤ p.2 ∧ p.2 ≤ 100) → 0 ≤ u → -(10000000000000 * (g.length : Int)) ≤ worthG g u ∧ worthG g u ≤ 10000000000000 * (g.length : Int)
  | [], _, _, _ => by simp [worthG]
  | (n, x) :: r, u, h, hu => by
    have h1 := h (n, x) List.mem_cons_self
    rw [worth_step]
    generalize hm : (if u < (n, x).1 then u else (n, x).1) = m
    have m0 : 0 ≤ m := by rw [← hm]; split <;> omega
    have m1 : m ≤ 100000000000 := by rw [← hm]; split <;> omega
    have m2 : m ≤ u := by rw [← hm]; split <;> omega
    have ih := worth_bd r (u - m) (fun p hp => h p (List.mem_cons_of_mem _ hp)) (by omega)
    have b1 : m * x ≤ 10000000000000 := by
      have := Int.mul_le_mul_of_nonneg_left (show x ≤ 100 by omega) m0
      omega
    have b2 : -10000000000000 ≤ m * x := by
      have := Int.mul_le_mul_of_nonneg_left (show -100 ≤ x by omega) m0
      omega
    rw [List.length_cons]
    show _ ≤ m * x + _ ∧ m * x + _ ≤ _
    have e : (((r.length + 1 : Nat)) : Int) = (r.length : Int) + 1 := by omega
    rw [e]
    omega
theorem rows_ok {great : Int} {items steps : Nat} {rows : List Gs} {grps : List Grp} (h : GoodSys great items steps rows grps) (hs : steps ≤ 5) (hg : great ≤ 10 ^ 11) :
    ∀ g ∈ rows, g.length ≤ 900 ∧ ∀ p ∈ g, 0 ≤ p.1 ∧ p.1 < 2 ^ 60 ∧ -100 ≤ p.2 ∧ p.2 ≤ 100 := by
  have hp : (10 : Int) ^ 11 = 100000000000 := by decide
  rw [hp] at hg
  intro g hgm
  have gg := h.rg g hgm
  refine ⟨by have := gg.len; omega, fun p hp => ?_⟩
  have a := gg.cnt p hp
  have b := gg.gn p hp
  exact ⟨by omega, by omega, b.1, b.2⟩
theorem rowAt_good {great : Int} {items steps : Nat} {rows : List Gs} {grps : List Grp} (h : GoodSys great items steps rows grps) (d : PyData) : rowAt rows d = [] ∨ GoodG great steps (rowAt rows d) := by
  cases d with
  | int i =>
    show rows.getD i.toNat [] = [] ∨ GoodG great steps (rows.getD i.toNat [])
    cases e : rows[i.toNat]? with
    | none =>
      refine .inl ?_
      rw [List.getD_eq_getElem?_getD, e]
      rfl
    | some g =>
      rw [getD_of e]
      exact .inr (h.rg g (List.mem_of_getElem? e))
  | _ => exact .inl rfl
theorem tame_told {great : Int} {items steps : Nat} {rows : List Gs} {grps : List Grp} {door : Int} {d e : PyData} (h : GoodSys great items steps rows grps) (hs : steps ≤ 5) (hg : great ≤ 10 ^ 11) (td : Tame 2 20 d) (te : Tame 2 20 e) : Tame 3 42 (toldD door d e rows) := by
  have hp : (10 : Int) ^ 11 = 100000000000 := by decide
  have two : ∀ (z : Str) (x : PyData), z.cps.size ≤ 20 → (z.cps.toList.all fun c => decide (c < 16 ^ 8)) = true → Tame 2 20 x → Tame 3 42 (.list [.str z, x]) := by
    intro z x z1 z2 tx
    refine (tame_lst (k := 2) (n := 20) (l := 2) (fun y hy => ?_) (by simp)).mono (Nat.le_refl _) (by decide)
    simp only [List.mem_cons, List.not_mem_nil, or_false] at hy
    rcases hy with rfl | rfl
    · exact (tame_str z1 z2).mono (by decide) (Nat.le_refl _)
    · exact tx
  have ti : ∀ i : Int, -100000000000000 ≤ i → i ≤ 100000000000000 → Tame 2 20 (.int i) := fun i a b => (tame_int (Nat.lt_of_lt_of_le (show i.natAbs < 1000000000000000 by omega) (by decide))).mono (by decide) (by decide)
  have cb : 0 ≤ capG (rowAt rows d) ∧ capG (rowAt rows d) ≤ 500000000000 := by
    rcases rowAt_good h d with z | z
    · rw [z]
      simp [capG]
    · exact capG_bd z hs hg
  unfold toldD
  split
  · split
    · exact two _ _ (by decide) (by decide) (ti _ (by omega) (by omega))
    · split
      · rename_i hb
        refine two _ _ (by decide) (by decide) ?_
        cases e with
        | int u =>
          have hu := (of_decide_eq_true hb).1
          have wb : -100000000000000 ≤ worthG (rowAt rows d) u ∧ worthG (rowAt rows d) u ≤ 100000000000000 := by
            rcases rowAt_good h d with z | z
            · rw [z]
              simp [worthG]
            · have l := z.len
              rw [hp] at hg
              have := worth_bd (rowAt rows d) u (fun p hp => by
                have a := z.cnt p hp
                have b := z.gn p hp
                exact ⟨by omega, by omega, b.1, b.2⟩) hu
              omega
          exact ti _ wb.1 wb.2
        | _ => cases hb
      · exact two _ _ (by decide) (by decide) te
  · exact two _ _ (by decide) (by decide) td
def sp_law (K : PySem.W.Frag) : Sp := fun vs H Q _ => ∃ (a : Addr) (ns : List Int), vs = [.ref a] ∧ SqL K H a (ns.map V.int) ∧ ns.length ≤ 63 ∧ ∀ H', Q (.bl true) H'
theorem tame2 {i : Int} (h : i.natAbs < 10 ^ 60) : Tame 2 20 (.int i) := (tame_int h).mono (by decide) (by decide)
theorem rg_mem {N : Nat} {x : V} (h : x ∈ rgV 0 (N : Int)) : ∃ i : Int, x = .int i ∧ 0 ≤ i ∧ i < N := by
  unfold rgV at h
  rw [List.mem_map] at h
  obtain ⟨k, hk, rfl⟩ := h
  rw [List.mem_range] at hk
  exact ⟨0 + (k : Nat), rfl, by omega, by omega⟩
def u0 : Int := (10 : Int) ^ (12 : Int).toNat
def gs0 : Gs := [((10 : Int) ^ (12 : Int).toNat - 1, 3), (1, -2)]
def rows0 : List Gs := [gs0]
/-- a list that was made in the comprehension's turn -/
def Fact (Hz H : Hp) (C p : Addr) (iv uv : V) (d e dd : PyData) : Prop := Hz p = none ∧ p ≠ C ∧ ∃ (z : Str) (x : V) (dx : PyData), H p = some (.lst [.str z, x]) ∧ dd = .list [.str z, dx] ∧ ((∃ n : Int, x = .int n ∧ dx = .int n) ∨ (x = iv ∧ dx = d) ∨ (x = uv ∧ dx = e))
theorem Fact.same {Hz H H' : Hp} {C p : Addr} {iv uv : V} {d e dd : PyData} (f : Fact Hz H C p iv uv d e dd) (s : Same H H') : Fact Hz H' C p iv uv d e dd := by
  obtain ⟨n, c, z, x, dx, e1, r⟩ := f
  exact ⟨n, c, z, x, dx, s _ _ e1, r⟩
theorem Fact.put {Hz H : Hp} {C p : Addr} {o : HO} {iv uv : V} {d e dd : PyData} (f : Fact Hz H C p iv uv d e dd) : Fact Hz (upd H C o) C p iv uv d e dd := by
  obtain ⟨n, c, z, x, dx, e1, r⟩ := f
  exact ⟨n, c, z, x, dx, by rw [upd_ne c]; exact e1, r⟩
theorem Made.fact {Hz H H' : Hp} {C p : Addr} {o o' : HO} {iv uv : V} {d e dd : PyData} (m : Made H H' p iv uv d e dd) (hC : H C = some o) (s : Same Hz H) : Fact Hz (upd H' C o') C p iv uv d e dd := by
  obtain ⟨n, z, x, dx, e1, r⟩ := m
  have c : p ≠ C := (ne_of_none hC n).symm
  exact ⟨Same.free s n, c, z, x, dx, by rw [upd_ne c]; exact e1, r⟩
theorem Fact.hd {D : Dk} {Hz H : Hp} {C p : Addr} {c : Nat} {iv uv : V} {d e dd : PyData} (f : Fact Hz H C p iv uv d e dd) (o : D.On Hz c) (hi : Hd D H iv d) (hu : Hd D H uv e) : Hd D H (.ref p) dd := by
  obtain ⟨n, _, z, x, dx, e1, rfl, r⟩ := f
  refine hd_list o n e1 (.cons (.str _) (.cons ?_ .nil))
  rcases r with ⟨k, rfl, rfl⟩ | ⟨rfl, rfl⟩ | ⟨rfl, rfl⟩
  · exact .int k
  · exact hi
  · exact hu
/-- the frame of the law's heap: the deck works, all else stands -/
structure Sit (D : Dk) (H0 H : Hp) (c : Nat) : Prop where
  kp : Keep D H0 H
  on : D.On H c
section
variable {P : Program} {w : World} {K : PySem.W.Frag} {mg : Str → Option Value} {base : Heap}
theorem ok_law (T : Txt K mg) (Y : XTxt K mg) : FnG P w K mg base CX0 6 T.a_law T.d_law p_law (sp_law K) := by
  have G_q_deck : FnOk P w K mg base CX0 1 T.a_q_deck T.d_q_deck p_q_deck (sp_q_deck K) := ok_q_deck T
  have G_q_next : FnOk P w K mg base CX0 1 T.a_q_next T.d_q_next p_q_next sp_q_next := ok_q_next T
  have G_q_odd : FnOk P w K mg base CX0 2 T.a_q_odd T.d_q_odd p_q_odd sp_q_odd := ok_q_odd T
  have G_q_great : FnOk P w K mg base CX0 2 T.a_q_great T.d_q_great p_q_great sp_q_great := ok_q_great T
  have G_q_system : FnOk P w K mg base CX0 3 T.a_q_system T.d_q_system p_q_system sp_q_system := ok_q_system T
  have G_q_whole : FnOk P w K mg base CX0 1 T.a_q_whole T.d_q_whole p_q_whole sp_q_whole := ok_q_whole T
  have G_q_capacity : FnOk P w K mg base CX0 1 T.a_q_capacity T.d_q_capacity p_q_capacity sp_cap := ok_q_capacity T
  have G_q_due : FnOk P w K mg base CX0 2 T.a_q_due T.d_q_due p_q_due sp_q_due := ok_q_due T
  have G_q_told : FnOk P w K mg base (L2.CX P w) 5 T.a_q_told T.d_q_told p_q_told sp_q_told := ok_q_told T Y
  have G_capacity_of : FnOk P w K mg base (L2.CX P w) 4 T.a_capacity_of T.d_capacity_of p_capacity_of (sp_capacity_of Y.I.C) := ok_capacity_of T Y.I
  have G_gain_of_units : FnOk P w K mg base (L2.CX P w) 4 T.a_gain_of_units T.d_gain_of_units p_gain_of_units (sp_gain_of_units Y.I.C Y.U.C) := ok_gain_of_units T Y.I Y.U
  refine fun_okG T.F_law sc_law (fun vs H Q E h => ?_) (fun cdv A outer s H vs Q E hG hr h => ?_)
  · obtain ⟨a, ns, rfl, _⟩ := h
    rfl
  · obtain ⟨a, ns, rfl, hS, hl, q⟩ := h
    have both : ∃ t, PSs (cxOf CX0 P w K mg base n_law "law" (defScope s_law) T.a_law cdv A outer s H E).nox (defBody s_law) t ∧ t { nx := fun _ H' => Q .non H', rt := Q } (start n_law [.ref a]) H := by
      refine ⟨_, (pss_cons (ps_set (i := 1) sc_law.nd rfl (.inl rfl) (pe_call G_q_deck (hr.mono (by decide)) (by rfl) T.g_q_deck T.F_q_deck.kp T.b_q_deck .nil pass0 (pa_cons (pv 0) pa_nil)))
(pss_cons (ps_for PassesOwn.never rfl (pi_range1 (by rfl) T.m_range (pa_cons pe_int pa_nil)) (pg_name (i := 2) sc_law.nd rfl (.inl rfl))
(pss_cons (ps_set (i := 3) sc_law.nd rfl (.inr rfl) (pe_call G_q_system (hr.mono (by decide)) (by rfl) T.g_q_system T.F_q_system.kp T.b_q_system .nil pass0 (pa_cons (pv 1) (pa_cons (pe_call G_q_great (hr.mono (by decide)) (by rfl) T.g_q_great T.F_q_great.kp T.b_q_great .nil pass0 (pa_cons (pv 1) pa_nil)) (pa_cons pe_int (pa_cons pe_int pa_nil))))))
(pss_cons (ps_par (i := 4) (j := 5) rfl sc_law.nd rfl rfl (by decide) rfl rfl (pa_cons (pe_callB call_lenF (by rfl) T.m_len PySem.boot_len (pa_cons (pe_ix ix_F (pv 3) pe_int (fun _ _ => rfl)) pa_nil)) (pa_cons (pe_callB (call_repr hG hr.units) (by rfl) T.m_repr (by decide +kernel) (pa_cons (pv 3) pa_nil)) pa_nil)) (by rfl))
(pss_one (ps_for PassesOwn.never rfl (pi_list (pe_op op_catF (pe_listRg rfl (by rfl) T.m_list (prg_1 (by rfl) T.m_range (pv 4))) (pe_lstF (pa_cons (pv 4) (pa_cons (pe_un un_neg pe_int) (pa_cons pe_bl (pa_cons pe_non (pa_cons pe_str (pa_cons (pe_tupF (pa_cons pe_int pa_nil)) (pa_cons (pe_call G_q_odd (hr.mono (by decide)) (by rfl) T.g_q_odd T.F_q_odd.kp T.b_q_odd .nil pass0 (pa_cons (pv 1) pa_nil)) pa_nil)))))))))) (pg_name (i := 6) sc_law.nd rfl (.inr rfl))
(Evl.pss_cut (ps_set (i := 7) sc_law.nd rfl (.inl rfl) (pe_ifExp (PW.pt (pw_and (pt_val (pe_call G_q_whole (hr.mono (by decide)) (by rfl) T.g_q_whole T.F_q_whole.kp T.b_q_whole .nil pass0 (pa_cons (pv 6) pa_nil))) (pw_and1 (pt_chain op_le op_lt pe_int (pv 6) (pv 4))))) (pe_ix ix_F (pe_ix ix_F (pv 3) pe_int (fun _ _ => rfl)) (pv 6) (fun _ _ => rfl)) (pe_tupF pa_nil)))
(pss_cons (ps_par (i := 8) (j := 9) rfl sc_law.nd rfl rfl (by decide) rfl rfl (pa_cons (pe_call G_q_capacity (hr.mono (by decide)) (by rfl) T.g_q_capacity T.F_q_capacity.kp T.b_q_capacity .nil pass0 (pa_cons (pv 7) pa_nil)) (pa_cons pe_int pa_nil)) (by rfl))
(pss_cons (ps_set (i := 10) sc_law.nd rfl (.inl rfl) (pe_lstF (pa_cons pe_int (pa_cons pe_int (pa_cons (pv 8) (pa_cons (pe_op op_add (pv 8) pe_int) (pa_cons (pe_op op_sub (pv 8) pe_int) (pa_cons (pe_un un_neg pe_int) (pa_cons pe_bl (pa_cons pe_non (pa_cons pe_str (pa_cons (pe_call G_q_next (hr.mono (by decide)) (by rfl) T.g_q_next T.F_q_next.kp T.b_q_next .nil pass0 (pa_cons (pv 1) (pa_cons (pe_op op_add (pv 8) pe_int) pa_nil))) (pa_cons (pe_call G_q_odd (hr.mono (by decide)) (by rfl) T.g_q_odd T.F_q_odd.kp T.b_q_odd .nil pass0 (pa_cons (pv 1) pa_nil)) pa_nil)))))))))))))
(pss_cons (ps_for PassesOwn.never rfl (pi_tup (pv 7)) (pg_name (i := 11) sc_law.nd rfl (.inl rfl))
(pss_cons (ps_set (i := 9) sc_law.nd rfl (.inl rfl) (pe_op op_add (pv 9) (pe_ix ix_F (pv 11) pe_int (fun _ _ => rfl))))
(pss_one (ps_set (i := 10) sc_law.nd rfl (.inl rfl) (pe_op op_catF (pv 10) (pe_lstF (pa_cons (pv 9) (pa_cons (pe_op op_add (pv 9) pe_int) pa_nil))))))))
(pss_one (ps_for PassesOwn.never rfl (pi_list (pv 10)) (pg_name (i := 12) sc_law.nd rfl (.inr rfl))
(pss_cons (ps_setLc (i := 13) (own := [("_law_door", 14)]) (g := (gName 14)) (tt := tYes) rfl sc_law.nd rfl rfl (sw_true rfl rfl rfl (by decide +kernel)) (pi_tup (pe_tupF (pa_cons pe_int (pa_cons pe_int pa_nil)))) (blkOk_by (own := [("_law_door", 14)]) (N := n_law) (sc := defScope s_law) (by decide +kernel)) (fun _ _ _ _ _ => (pg_name (i := 14) sc_law.nd rfl (.inl rfl))) (fun _ _ _ _ _ => pts_nil) (fun _ _ _ _ _ => (pe_call G_q_told (hr.mono (by decide)) (by rfl) T.g_q_told T.F_q_told.kp T.b_q_told .nil passL (pa_cons (pv 14) (pa_cons (pv 3) (pa_cons (pv 6) (pa_cons (pv 12) pa_nil)))))))
(pss_one (ps_if (PW.pt (pw_or (pt_cmpR op_ne (pe_callB (call_repr hG hr.units) (by rfl) T.m_repr (by decide +kernel) (pa_cons (pv 13) pa_nil)) (pe_callB (call_repr hG hr.units) (by rfl) T.m_repr (by decide +kernel) (pa_cons (pe_call G_q_due (hr.mono (by decide)) (by rfl) T.g_q_due T.F_q_due.kp T.b_q_due .nil pass0 (pa_cons (pv 3) (pa_cons (pv 6) (pa_cons (pv 12) pa_nil)))) pa_nil)) (nomark _)) (pw_or1 (pt_cmpR op_ne (pe_callB (call_repr hG hr.units) (by rfl) T.m_repr (by decide +kernel) (pa_cons (pv 3) pa_nil)) (pv 5) (nomark _)))))
(pss_one (ps_ret pe_bl))
pss_nil))))))))))))))
(pss_cons (ps_set (i := 3) sc_law.nd rfl (.inr rfl) (pe_tupF (pa_cons (pe_tupF (pa_cons (pe_tupF (pa_cons (pe_tupF (pa_cons (pe_op op_sub (pe_op op_pow pe_int pe_int) pe_int) (pa_cons pe_int pa_nil))) (pa_cons (pe_tupF (pa_cons pe_int (pa_cons (pe_un un_neg pe_int) pa_nil))) pa_nil))) pa_nil)) (pa_cons (pe_tupF pa_nil) pa_nil))))
(pss_one (ps_ret (pe_cmpR (op_eqD hr.units) (pe_lstF (pa_cons (pe_call G_capacity_of (hr.mono (by decide)) (by rfl) T.g_capacity_of T.F_capacity_of.kp T.b_capacity_of .nil passL (pa_cons (pv 3) (pa_cons pe_int pa_nil))) (pa_cons (pe_call G_gain_of_units (hr.mono (by decide)) (by rfl) T.g_gain_of_units T.F_gain_of_units.kp T.b_gain_of_units .nil passL (pa_cons (pv 3) (pa_cons pe_int (pa_cons (pe_op op_pow pe_int pe_int) pa_nil)))) pa_nil))) (pe_lstF (pa_cons (pe_op op_pow pe_int pe_int) (pa_cons (pe_op op_sub (pe_op op_mul pe_int (pe_op op_pow pe_int pe_int)) pe_int) pa_nil))) (nomark _))))))), ?_⟩
      refine ⟨_, rfl, a, ns, rfl, hS, hl, fun H1 D s1 n1 n2 n3 d1 => ?_⟩
      refine ⟨5, rfl, by decide, by decide, ?_⟩
      refine for_range (lo := 0) (n := 5) (fun i σ H' => ∃ y2 y3 y4 y5 y6 y7 y8 y9 y10 y11 y12 y13, σ = [some (.ref a), some (.ref D.a), y2, y3, y4, y5, y6, y7, y8, y9, y10, y11, y12, y13, none] ∧ D.On H' (i * 10000))
        ⟨_, _, _, _, _, _, _, _, _, _, _, _, rfl, d1⟩ (fun i σ H2 hi hp => ?_) (fun σ H2 hp => ?_)
      · obtain ⟨y2, y3, y4, y5, y6, y7, y8, y9, y10, y11, y12, y13, rfl, d2⟩ := hp
        have hi5 : i < 5 := hi
        refine ⟨_, rfl, _, rfl, D, i * 10000, rfl, d2, by omega, fun H3 gr k3 d3 g1 g2 => ⟨D, i * 10000 + 1, 6, 5, gr, rfl, d3, by omega, g1, g2, by decide, by decide, by decide, fun H4 sv rows grps k4 d4 fs gs => ?_⟩⟩
        have ok_rows := rows_ok gs (by decide) g2
        have tsys := (tame_sys gs (by decide) (by decide) g2).fits (by decide) (by decide)
        have hrl : rows.length ≤ 6 := gs.r2
        obtain ⟨a0, b0, c0, xr, xg, rfl, ea, eb, fr, ec, fg⟩ := sys_parts fs
        obtain ⟨N, hN⟩ : ∃ N, rows.length = N := ⟨_, rfl⟩
        have lxr : xr.length = N := by rw [fr.len, List.length_map, hN]
        refine ⟨_, rfl, a0, _, 0, _, rfl, rfl, .inr ea, at0, b0, xr, rfl, .inr eb, _, rfl, D, .ref a0, _, _, .inr rfl, rfl, fs.hd, tsys.1, tsys.2.1, tsys.2.2, _, _, rfl, ?_⟩
        rw [lxr]
        -- the items that are asked
        refine ⟨_, rfl, (N : Int), rfl, RgOk.of_le (by decide) (by omega) (by decide) (by omega), fun l1 nl1 => ?_⟩
        have s5 : Same H4 (upd H4 l1 (.lst (rgV 0 (N : Int)))) := same_new nl1
        have el1 : (upd H4 l1 (.lst (rgV 0 (N : Int)))) l1 = some (.lst (rgV 0 (N : Int))) := upd_same
        have ne1 := d4.at_ne nl1
        generalize upd H4 l1 (.lst (rgV 0 (N : Int))) = H5 at s5 el1 ⊢
        refine ⟨_, rfl, 1, rfl, by simp, fun pt H6 npt s6 et => ?_⟩
        have d6 := d4.same (s5.trans s6)
        refine ⟨_, rfl, D, i * 10000 + 1 + 1000, rfl, d6, by omega, fun H7 vo od k7 d7 ho hm => ⟨by simp, fun l2 H8 nl2 s8 el2 => ?_⟩⟩
        have el18 := s8 _ _ (k7 _ _ (s6 _ _ el1) ne1.1 ne1.2.1)
        refine ⟨l1, l2, _, _, rfl, rfl, el18, el2, by rw [rgV_length]; simp; omega, fun p H9 np s9 ep => ⟨p, rfl, ⟨_, .inl (.inl ep)⟩, ?_⟩⟩
        have d9 : D.On H9 (i * 10000 + 1002) := (d7.same (s8.trans s9)).mono (by omega)
        have s46 : Same H4 H6 := s5.trans s6
        have k49 : Keep D H4 H9 := ((Same.keep s46).trans k7).trans (Same.keep (s8.trans s9))
        have npp := (d7.same s8).at_ne np
        have fs9 : Fz H9 (.ref a0) (sysD rows grps) := fs.tk (k49.tk d4)
        have ho9 : Hd D H9 vo od := ho.keep d7 (Same.keep (s8.trans s9))
        have et9 := ((k7.trans (Same.keep (s8.trans s9))).tk d6) _ _ et
        have HI : ∀ x ∈ rgV 0 (N : Int) ++ [.int (N : Int), .int (-1), .bl true, .non, .str "0", .ref pt, vo], ∃ d, Hd D H9 x d ∧ Tame 2 20 d := by
          intro x hx
          rcases List.mem_append.mp hx with z | z
          · obtain ⟨j, rfl, j0, j1⟩ := rg_mem z
            exact ⟨_, .int j, tame2 (Nat.lt_of_lt_of_le (show j.natAbs < 100 by omega) (by decide))⟩
          · simp only [List.mem_cons, List.not_mem_nil, or_false] at z
            rcases z with rfl | rfl | rfl | rfl | rfl | rfl | rfl
            · exact ⟨_, .int _, tame2 (Nat.lt_of_lt_of_le (show (N : Int).natAbs < 100 by omega) (by decide))⟩
            · exact ⟨_, .int _, tame2 (by decide)⟩
            · exact ⟨_, .bl true, tame_odd _ (by simp [oddD])⟩
            · exact ⟨_, .non, tame_odd _ (by simp [oddD])⟩
            · exact ⟨_, .str "0", tame_odd _ (by simp [oddD])⟩
            · exact ⟨_, .tup et9 (.cons (.int 0) .nil), tame_odd _ (by simp [oddD])⟩
            · exact ⟨od, ho9, tame_odd _ hm⟩
        have ylen : (rgV 0 (N : Int) ++ [.int (N : Int), .int (-1), .bl true, .non, .str "0", .ref pt, vo]).length ≤ 13 := by
          rw [List.length_append, rgV_length]
          simp
          omega
        generalize rgV 0 (N : Int) ++ [.int (N : Int), .int (-1), .bl true, .non, .str "0", .ref pt, vo] = ys at ep HI ylen ⊢
        refine for_list (K := K) (a := p) (xs := ys) (fun j σ H' => ∃ y6 y7 y8 y9 y10 y11 y12 y13, σ = [some (.ref a), some (.ref D.a), some (.int (0 + (i : Nat))), some (.ref a0), some (.int (N : Int)), some (.str (sysD rows grps).shown), y6, y7, y8, y9, y10, y11, y12, y13, none] ∧
            Keep D H9 H' ∧ D.On H' (i * 10000 + 1002 + 2 * j)) ⟨_, _, _, _, _, _, _, _, rfl, Keep.rfl', d9⟩ (fun j σ H' hj hp => ?_) (fun j x σ H10 hx hp => ?_) (fun σ H' hp => ?_)
        · obtain ⟨_, _, _, _, _, _, _, _, _, kp, _⟩ := hp
          exact .inl (.inl (kp _ _ ep npp.1 npp.2.1))
        · obtain ⟨y6, y7, y8, y9, y10, y11, y12, y13, rfl, k10, d10⟩ := hp
          have hj13 : j < 13 := by
            have := (List.getElem?_eq_some_iff.mp hx).1
            omega
          obtain ⟨d, hd9, td⟩ := HI x (List.mem_of_getElem? hx)
          have hd10 := hd9.keep d9 k10
          have fs10 : Fz H10 (.ref a0) (sysD rows grps) := fs9.tk (k10.tk d9)
          have p11 : (10 : Int) ^ 11 = 100000000000 := by decide
          have g3 : gr ≤ 100000000000 := by rw [← p11]; exact g2
          -- the gains of the item, or none
          refine ⟨fun σ' H' => ∃ vg g, σ' = [some (.ref a), some (.ref D.a), some (.int (0 + (i : Nat))), some (.ref a0), some (.int (N : Int)), some (.str (sysD rows grps).shown), some x, some vg, y8, y9, y10, y11, y12, y13, none] ∧ Same H10 H' ∧ Fz H' vg (gD g) ∧ (g = [] ∨ GoodG gr 5 g), ?_, ?_⟩
          · refine ⟨_, rfl, D, x, d, rfl, hd10, _, rfl, ?_⟩
            cases hw : wholeD d with
            | false => exact iteF (iteF ⟨by simp, fun pe H11 ne s11 ee => ⟨_, [], rfl, s11, .tup ee .nil, .inl rfl⟩⟩)
            | true =>
              obtain ⟨z, rfl⟩ := wholeD_int hw
              obtain rfl := hd10.intE
              refine iteT ⟨_, rfl, _, _, rfl, rfl, _, rfl, ite2 (fun c0 => ⟨_, rfl, _, _, rfl, rfl, _, rfl, ite2 (fun c1 => ?_) (fun c1 => ?_)⟩) (fun c0 => ?_)⟩
              · have z0 : 0 ≤ z := of_decide_eq_true c0
                have z1 : z < (N : Int) := of_decide_eq_true c1
                obtain ⟨ha0, hb0, hc0, xr', xg', e0, e1, e2, f2, _, _⟩ := sys_parts fs10
                cases e0
                have lxr' : xr'.length = N := by rw [f2.len, List.length_map, hN]
                obtain ⟨v, hv1, hv2⟩ := at_of (xs := xr') (r := z) lxr' z0 z1
                obtain ⟨g, hg1, hg2⟩ := row_of f2 hv2
                exact ⟨_, rfl, a0, _, 0, _, rfl, rfl, .inr e1, at0, _, rfl, hb0, xr', z, v, rfl, rfl, .inr e2, hv1, v, g, rfl, Same.refl _, hg2, .inr (gs.rg g (List.mem_of_getElem? hg1))⟩
              · exact ⟨by simp, fun pe H11 ne s11 ee => ⟨_, [], rfl, s11, .tup ee .nil, .inl rfl⟩⟩
              · exact ⟨_, rfl, iteF ⟨by simp, fun pe H11 ne s11 ee => ⟨_, [], rfl, s11, .tup ee .nil, .inl rfl⟩⟩⟩
          · rintro σ' H11 ⟨vg, g, rfl, s11, fg11, hgood⟩
            have gb : g.length ≤ 5 ∧ (∀ p ∈ g, 1 ≤ p.1 ∧ p.1 ≤ 100000000000) ∧ 0 ≤ capG g ∧ capG g ≤ 500000000000 := by
              rcases hgood with rfl | z
              · exact ⟨by simp, (by intro p hp; cases hp), by simp [capG], by simp [capG]⟩
              · have := capG_bd z (by decide) g2
                exact ⟨z.len, fun p hp => by have := z.cnt p hp; omega, this.1, this.2⟩
            obtain ⟨gl, gc, cap0, cap1⟩ := gb
            refine ⟨_, rfl, vg, g, rfl, fg11, by omega, fun H12 s12 => ⟨_, _, rfl, ?_⟩⟩
            have s1012 := s11.trans s12
            have d12 := d10.same s1012
            have fg12 := fg11.tk (Same.tk s12)
            -- the units that are asked
            refine ⟨_, rfl, _, rfl, _, _, rfl, rfl, _, rfl, _, _, rfl, rfl, 1, rfl, _, rfl, _, rfl, _, _, rfl, rfl, D, i * 10000 + 1002 + 2 * j, capG g + 1, rfl, d12, by omega, by omega, by omega, fun H13 r13 k13 d13 r0 r1 => ?_⟩
            refine ⟨_, rfl, D, i * 10000 + 1002 + 2 * j + 1, rfl, d13, by omega, fun H14 v14 o14 k14 d14 h14 m14 => ⟨by simp, fun ls H15 nls s15 els => ?_⟩⟩
            have k1215 : Keep D H12 H15 := (k13.trans k14).trans (Same.keep s15)
            have k1015 : Keep D H10 H15 := (Same.keep s1012).trans k1215
            have d15 := d14.same s15
            have fg15 := fg12.tk (k1215.tk d12)
            have h15 := h14.keep d14 (Same.keep s15)
            have US : ∀ y ∈ [V.int 0, .int 1, .int (capG g), .int (capG g + 1), .int (capG g - 1), .int (-1), .bl true, .non, .str "1", .int r13, v14], ∃ e, Hd D H15 y e ∧ Tame 2 20 e := by
              intro y hy
              have small : ∀ n : Int, -10 ≤ n → n ≤ 600000000000 → ∃ e, Hd D H15 (.int n) e ∧ Tame 2 20 e := fun n n0 n1 => ⟨_, .int n, tame2 (Nat.lt_of_lt_of_le (show n.natAbs < 1000000000000 by omega) (by decide))⟩
              simp only [List.mem_cons, List.not_mem_nil, or_false] at hy
              rcases hy with rfl | rfl | rfl | rfl | rfl | rfl | rfl | rfl | rfl | rfl | rfl
              · exact small _ (by omega) (by omega)
              · exact small _ (by omega) (by omega)
              · exact small _ (by omega) (by omega)
              · exact small _ (by omega) (by omega)
              · exact small _ (by omega) (by omega)
              · exact small _ (by omega) (by omega)
              · exact ⟨_, .bl true, tame_odd _ (by simp [oddD])⟩
              · exact ⟨_, .non, tame_odd _ (by simp [oddD])⟩
              · exact ⟨_, .str "1", (tame_str (by decide) (by decide)).mono (by decide) (Nat.le_refl _)⟩
              · exact small _ (by omega) (by omega)
              · exact ⟨o14, h15, tame_odd _ m14⟩
            obtain ⟨pg, xg', rfl, epg, fxg⟩ := fg15.tuple
            have lxg : xg'.length = g.length := by rw [fxg.len, List.length_map]
            refine ⟨_, rfl, pg, rfl, ⟨_, .inl (.inl epg)⟩, ?_⟩
            refine for_tup (K := K) (a := pg) (xs := xg') (fun k σ H' => ∃ b ls xs y11, σ = [some (.ref a), some (.ref D.a), some (.int (0 + (i : Nat))), some (.ref a0), some (.int (N : Int)), some (.str (sysD rows grps).shown), some x, some (.ref pg), some (.int (capG g)), some (.int b), some (.ref ls), y11, y12, y13, none] ∧
                Same H15 H' ∧ H' ls = some (.lst xs) ∧ xs.length ≤ 11 + 2 * k ∧ 0 ≤ b ∧ b ≤ 100000000000 * (k : Int) ∧ ∀ y ∈ xs, ∃ e, Hd D H' y e ∧ Tame 2 20 e)
              ⟨0, ls, _, _, rfl, Same.refl _, els, by simp, Int.le_refl 0, by omega, US⟩ (fun k σ H' _ hp => ?_) (fun k x2 σ H' hx2 hp => ?_) (fun σ H' hp => ?_)
            · obtain ⟨_, _, _, _, _, sm, _⟩ := hp
              exact .inl (.inl (sm _ _ epg))
            · obtain ⟨b, ls, xs, y11, rfl, sm, els', xl, b0', b1', US'⟩ := hp
              obtain ⟨q2, pa, hq, rfl, hpa⟩ := step_of (fxg.tk (Same.tk sm)) hx2
              have hk5 : k < 5 := by
                have := (List.getElem?_eq_some_iff.mp hq).1
                omega
              have qb := gc q2 (List.mem_of_getElem? hq)
              refine ⟨_, rfl, _, rfl, pa, _, 0, _, rfl, rfl, .inr hpa, at0, _, _, rfl, rfl, ?_⟩
              refine ⟨_, rfl, _, rfl, _, rfl, _, _, rfl, rfl, by simp, fun l3 H16 n3 s16 e3 => ⟨ls, l3, _, _, rfl, rfl, s16 _ _ els', e3, by simp; omega, fun l4 H17 n4 s17 e4 => ?_⟩⟩
              have s1617 := s16.trans s17
              refine ⟨b + q2.1, l4, _, _, rfl, sm.trans s1617, e4, by rw [List.length_append]; simp; omega, by omega, by omega, fun y hy => ?_⟩
              rcases List.mem_append.mp hy with z | z
              · obtain ⟨e, h1, h2⟩ := US' y z
                exact ⟨e, h1.keep (d15.same sm) (Same.keep s1617), h2⟩
              · simp only [List.mem_cons, List.not_mem_nil, or_false] at z
                rcases z with rfl | rfl
                · exact ⟨_, .int _, tame2 (Nat.lt_of_lt_of_le (show (b + q2.1).natAbs < 1000000000000 by omega) (by decide))⟩
                · exact ⟨_, .int _, tame2 (Nat.lt_of_lt_of_le (show (b + q2.1 + 1).natAbs < 1000000000000 by omega) (by decide))⟩
            · obtain ⟨b, ls, xs, y11, rfl, sm, els', xl, b0', b1', US'⟩ := hp
              have dH := d15.same sm
              have kH : Keep D H10 H' := k1015.trans (Same.keep sm)
              have fsH : Fz H' (.ref a0) (sysD rows grps) := fs10.tk (kH.tk d10)
              have hdH : Hd D H' x d := hd10.keep d10 kH
              have xsl : xs.length ≤ 21 := by omega
              refine ⟨_, rfl, ls, rfl, ⟨_, .inl (.inl els')⟩, ?_⟩
              refine for_list (K := K) (a := ls) (xs := xs) (fun m σ H'' => ∃ y12 y13, σ = [some (.ref a), some (.ref D.a), some (.int (0 + (i : Nat))), some (.ref a0), some (.int (N : Int)), some (.str (sysD rows grps).shown), some x, some (.ref pg), some (.int (capG g)), some (.int b), some (.ref ls), y11, y12, y13, none] ∧ Same H' H'')
                ⟨_, _, rfl, Same.refl _⟩ (fun m σ H'' _ hp => ?_) (fun m x3 σ H20 hx3 hp => ?_) (fun σ H'' hp => ?_)
              · obtain ⟨_, _, _, s''⟩ := hp
                exact .inl (.inl (s'' _ _ els'))
              · obtain ⟨y12, y13, rfl, s20⟩ := hp
                obtain ⟨e, he, te⟩ := US' x3 (List.mem_of_getElem? hx3)
                have d20 := dH.same s20
                have fs20 := fsH.tk (Same.tk s20)
                have hd20 := hdH.keep dH (Same.keep s20)
                have he20 := he.keep dH (Same.keep s20)
                have lrow : rows.length ≤ 900 := by omega
                have t0 := tame_told (door := 0) gs (by decide) g2 td te
                have t1 := tame_told (door := 1) gs (by decide) g2 td te
                have tf : Tame 4 100 (.list [toldD 0 d e rows, toldD 1 d e rows]) := by
                  refine (tame_lst (k := 3) (n := 42) (l := 2) (fun y hy => ?_) (by simp)).mono (Nat.le_refl _) (by decide)
                  simp only [List.mem_cons, List.not_mem_nil, or_false] at hy
                  rcases hy with rfl | rfl
                  · exact t0
                  · exact t1
                have tff := tf.fits (by decide) (by decide)
                refine ⟨by simp, fun pz Hz nz sz ez => ⟨pz, rfl, ⟨_, .inl (.inl ez)⟩, fun C nC => ?_⟩⟩
                have dz := d20.same sz
                have fsz := fs20.tk (Same.tk sz)
                have hdz := hd20.keep d20 (Same.keep sz)
                have hez := he20.keep d20 (Same.keep sz)
                have nCd := dz.at_ne nC
                refine lc_tup (K := K) (a := pz) (xs := [.int 0, .int 1]) (fun k H' => Same Hz H' ∧ (k = 0 → H' C = some (.lst [])) ∧ (k = 1 → ∃ p0, H' C = some (.lst [.ref p0]) ∧ Fact Hz H' C p0 x x3 d e (toldD 0 d e rows)) ∧
                    (k = 2 → ∃ p0 p1, H' C = some (.lst [.ref p0, .ref p1]) ∧ Fact Hz H' C p0 x x3 d e (toldD 0 d e rows) ∧ Fact Hz H' C p1 x x3 d e (toldD 1 d e rows)))
                  ⟨same_new nC, fun _ => upd_same, (by intro z; cases z), (by intro z; cases z)⟩ (fun k H' _ h => .inl (.inl (h.1 _ _ ez))) (fun k y H' hy hp => ?_) (fun H' hp => ?_)
                · obtain ⟨sm, h0, h1, h2⟩ := hp
                  have dm := dz.same sm
                  have fsm := fsz.tk (Same.tk sm)
                  have hdm := hdz.keep dz (Same.keep sm)
                  have hem := hez.keep dz (Same.keep sm)
                  have hk2 : k < 2 := (List.getElem?_eq_some_iff.mp hy).1
                  have ek : k = 0 ∨ k = 1 := by omega
                  rcases ek with rfl | rfl
                  · cases hy
                    refine ⟨rfl, _, rfl, _, rfl, _, rfl, _, rfl, D, _, 0, .ref a0, x, x3, d, e, rows, grps, rfl, dm, fsm, hdm, hem, lrow, ok_rows, fun H21 p0 s21 mk => ?_⟩
                    have eC := s21 _ _ (h0 rfl)
                    refine ⟨[], eC, small1000 (by simp), same_set (sm.trans s21) nC, (by intro z; cases z), fun _ => ⟨p0, upd_same, mk.fact (h0 rfl) sm⟩, (by intro z; cases z)⟩
                  · cases hy
                    obtain ⟨p0, eC', f0⟩ := h1 rfl
                    refine ⟨rfl, _, rfl, _, rfl, _, rfl, _, rfl, D, _, 1, .ref a0, x, x3, d, e, rows, grps, rfl, dm, fsm, hdm, hem, lrow, ok_rows, fun H21 p1 s21 mk => ?_⟩
                    have eC := s21 _ _ eC'
                    refine ⟨[.ref p0], eC, small1000 (by simp), same_set (sm.trans s21) nC, (by intro z; cases z), (by intro z; cases z), fun _ => ⟨p0, p1, upd_same, (f0.same s21).put, mk.fact eC' sm⟩⟩
                · obtain ⟨sm, _, _, h2⟩ := hp
                  obtain ⟨p0, p1, eC, f0, f1⟩ := h2 rfl
                  have dm := dz.same sm
                  have fsm := fsz.tk (Same.tk sm)
                  have hdm := hdz.keep dz (Same.keep sm)
                  have hem := hez.keep dz (Same.keep sm)
                  have hF : Hd D H' (.ref C) (.list [toldD 0 d e rows, toldD 1 d e rows]) := .lst eC nCd.1 nCd.2.1 (.cons (f0.hd dz hdm hem) (.cons (f1.hd dz hdm hem) .nil))
                  refine ⟨_, rfl, D, .ref C, _, _, .inl rfl, rfl, hF, tff.1, tff.2.1, tff.2.2, ?_⟩
                  refine ⟨_, rfl, _, rfl, _, rfl, D, _, .ref a0, x, x3, d, e, rows, grps, rfl, dm, fsm, hdm, hem, lrow, ok_rows, fun H22 vd s22 hv => ⟨D, vd, _, _, .inl rfl, rfl, hv, tff.1, tff.2.1, tff.2.2, rfl, _, rfl, iteNS rfl ?_⟩⟩
                  refine ⟨_, rfl, D, .ref a0, _, _, .inr rfl, rfl, (fsm.tk (Same.tk s22)).hd, tsys.1, tsys.2.1, tsys.2.2, _, rfl, rfl, _, rfl, iteNS rfl ?_⟩
                  exact ⟨_, _, rfl, (s20.trans sz).trans (sm.trans s22)⟩
              · obtain ⟨y12, y13, rfl, s''⟩ := hp
                exact ⟨_, _, _, _, _, _, _, _, rfl, (k10.trans kH).trans (Same.keep s''), (dH.same s'').mono (by omega)⟩
        · obtain ⟨y6, y7, y8, y9, y10, y11, y12, y13, rfl, k10, d10⟩ := hp
          exact ⟨_, _, _, _, _, _, _, _, _, _, _, _, rfl, d10.mono (by omega)⟩
      · obtain ⟨y2, y3, y4, y5, y6, y7, y8, y9, y10, y11, y12, y13, rfl, d2⟩ := hp
        refine ⟨_, _, rfl, rfl, ⟨by decide, by decide, by decide⟩, _, _, rfl, rfl, by simp, fun pa Ha na sa ea => ⟨2, rfl, by simp, fun pb Hb nb sb eb => ⟨by simp, fun pc Hc nc sc ec => ⟨by simp, fun pd Hd' nd sd ed => ⟨by simp, fun pe He ne se ee => ⟨by simp, fun pf Hf nf sf ef => ?_⟩⟩⟩⟩⟩⟩
        have dF : D.On Hf (5 * 10000) := d2.same ((sa.trans (sb.trans sc)).trans ((sd.trans se).trans sf))
        have fz : Fz Hf (.ref pf) (sysD rows0 []) := by
          refine .tup ef (.cons (.tup (sf _ _ (se _ _ ed)) (.cons (.tup (sf _ _ (se _ _ (sd _ _ ec))) (.cons (.tup (sf _ _ (se _ _ (sd _ _ (sc _ _ (sb _ _ ea))))) (.cons (.int _) (.cons (.int _) .nil))) (.cons (.tup (sf _ _ (se _ _ (sd _ _ (sc _ _ eb)))) (.cons (.int _) (.cons (.int _) .nil))) .nil))) .nil)) (.cons (.tup (sf _ _ ee) .nil) .nil))
        have row : ∀ (i : Int) (g : Gs), PyData.int 0 = .int i → 0 ≤ i → i < rows0.length → rows0[i.toNat]? = some g → g = gs0 := by
          intro i g e _ _ hg
          cases e
          exact (Option.some.inj hg).symm
        have len0 : ∀ g ∈ rows0, g.length ≤ 900 ∧ ∀ p ∈ g, 0 ≤ p.1 ∧ p.1 < 2 ^ 60 := by decide +kernel
        refine ⟨_, rfl, D, .ref pf, .int 0, .int 0, rows0, [], rfl, fz, .int 0, by decide, fun g hg => (len0 g hg).1, fun i g e i0 i1 hg Hg sg => ?_, fun z => absurd z (by decide +kernel)⟩
        obtain rfl := row i g e i0 i1 hg
        refine ⟨_, rfl, _, _, rfl, rfl, ⟨by decide, by decide, by decide⟩, D, .ref pf, .int 0, .int u0, .int 0, .int u0, rows0, [], rfl, fz.tk (Same.tk sg), .int 0, .int u0, ⟨_, dF.same sg⟩, by decide, len0, fun i g' e' i0' i1' hg' => ⟨fun u eu _ _ Hh sh => ?_, fun z => ?_⟩, fun z => absurd z (by decide +kernel)⟩
        · obtain rfl := row i g' e' i0' i1' hg'
          cases eu
          refine ⟨by simp, fun pl Hi nl si el => ?_⟩
          refine ⟨_, _, rfl, rfl, ⟨by decide, by decide, by decide⟩, _, _, rfl, rfl, ⟨by decide, by decide, by decide⟩, _, _, rfl, rfl, .inl ⟨by decide, by decide⟩, _, _, rfl, rfl, by simp, fun pm Hj nm sj em => ?_⟩
          refine ⟨.list [.int (capG gs0), .int (worthG gs0 u0)], .list [.int u0, .int (3 * u0 - 5)], .lst (.inl (.inl (sj _ _ el))) (.cons (.int _) (.cons (.int _) .nil)), .lst (.inl (.inl em)) (.cons (.int _) (.cons (.int _) .nil)), by decide +kernel, by decide +kernel, ?_⟩
          rw [show PyData.eqv (.list [.int (capG gs0), .int (worthG gs0 u0)]) (.list [.int u0, .int (3 * u0 - 5)]) = true by decide +kernel]
          exact q _
        · obtain rfl := row i g' e' i0' i1' hg'
          exact absurd z (by decide +kernel)
    obtain ⟨t, h1, h2⟩ := both
    exact ⟨t, h1.nox, h2⟩
end
end My

namespace My
open PySem PySem.Spec PyProof.Rows L2
theorem all_mk {P : Program} {w : World} {K : PySem.W.Frag} {h : Heap} {mg : Str → Option Value} {fa : Addr} (X : K.In h) (G : h.Ns mainGlobals mg) (hfa : mg "law" = some (.ref fa))
    {f0 : Addr} {od0 an0 : Option Addr} {sl0 : Array (Option Value)} {oc0 kV0 dc0 pm0 cd0 ct0 : Value}
    {f1 : Addr} {od1 an1 : Option Addr} {sl1 : Array (Option Value)} {oc1 kV1 dc1 pm1 cd1 ct1 : Value}
    {f2 : Addr} {od2 an2 : Option Addr} {sl2 : Array (Option Value)} {oc2 kV2 dc2 pm2 cd2 ct2 : Value}
    {f3 : Addr} {od3 an3 : Option Addr} {sl3 : Array (Option Value)} {oc3 kV3 dc3 pm3 cd3 ct3 : Value}
    {f4 : Addr} {od4 an4 : Option Addr} {sl4 : Array (Option Value)} {oc4 kV4 dc4 pm4 cd4 ct4 : Value}
    {f5 : Addr} {od5 an5 : Option Addr} {sl5 : Array (Option Value)} {oc5 kV5 dc5 pm5 cd5 ct5 : Value}
    {f6 : Addr} {od6 an6 : Option Addr} {sl6 : Array (Option Value)} {oc6 kV6 dc6 pm6 cd6 ct6 : Value}
    {f7 : Addr} {od7 an7 : Option Addr} {sl7 : Array (Option Value)} {oc7 kV7 dc7 pm7 cd7 ct7 : Value}
    {f8 : Addr} {od8 an8 : Option Addr} {sl8 : Array (Option Value)} {oc8 kV8 dc8 pm8 cd8 ct8 : Value}
    {f9 : Addr} {od9 an9 : Option Addr} {sl9 : Array (Option Value)} {oc9 kV9 dc9 pm9 cd9 ct9 : Value}
    {f10 : Addr} {od10 an10 : Option Addr} {sl10 : Array (Option Value)} {oc10 kV10 dc10 pm10 cd10 ct10 : Value}
    {f11 : Addr} {od11 an11 : Option Addr} {sl11 : Array (Option Value)} {oc11 kV11 dc11 pm11 cd11 ct11 : Value}
    {f12 : Addr} {od12 an12 : Option Addr} {sl12 : Array (Option Value)} {oc12 kV12 dc12 pm12 cd12 ct12 : Value}
    {f13 : Addr} {od13 an13 : Option Addr} {sl13 : Array (Option Value)} {oc13 kV13 dc13 pm13 cd13 ct13 : Value}
    {f14 : Addr} {od14 an14 : Option Addr} {sl14 : Array (Option Value)} {oc14 kV14 dc14 pm14 cd14 ct14 : Value}
    {f15 : Addr} {od15 an15 : Option Addr} {sl15 : Array (Option Value)} {oc15 kV15 dc15 pm15 cd15 ct15 : Value}
    {f16 : Addr} {od16 an16 : Option Addr} {sl16 : Array (Option Value)} {oc16 kV16 dc16 pm16 cd16 ct16 : Value}
    {f17 : Addr} {od17 an17 : Option Addr} {sl17 : Array (Option Value)} {oc17 kV17 dc17 pm17 cd17 ct17 : Value}
    {f18 : Addr} {od18 an18 : Option Addr} {sl18 : Array (Option Value)} {oc18 kV18 dc18 pm18 cd18 ct18 : Value}
    {f19 : Addr} {od19 an19 : Option Addr} {sl19 : Array (Option Value)} {oc19 kV19 dc19 pm19 cd19 ct19 : Value}
    {C0 I0 N0 : Addr} {nm0 q0 : Str} {bs0 bm0 : List Value} {sn0 : List Str} {sb0 : List Value} {ab0 : Bool} {co0 : Option Bool} {dd0 : Option Addr} {u0 v0 w0 x0 y0 : Option Value} {od_0 an_0 : Option Addr} {sl_0 : Array (Option Value)} {oc_0 dc_0 pm_0 cd_0 ct_0 kV_0 : Value}
    {C1 I1 N1 : Addr} {nm1 q1 : Str} {bs1 bm1 : List Value} {sn1 : List Str} {sb1 : List Value} {ab1 : Bool} {co1 : Option Bool} {dd1 : Option Addr} {u1 v1 w1 x1 y1 : Option Value} {od_1 an_1 : Option Addr} {sl_1 : Array (Option Value)} {oc_1 dc_1 pm_1 cd_1 ct_1 kV_1 : Value}
    {P0 : Addr}
    {P1 : Addr}
    {P2 : Addr}
    {P3 : Addr}
    (a0 : PySem.W.nsIn K mainGlobals "is_between" = some (some (.ref f0))) (l0 : K.lookup f0 = some ⟨oc0, od0, .func (PySem.W.fnOf "is_between" "is_between" (defArgs s_is_between) (defBody s_is_between) (defScope s_is_between) .none kV0 dc0 pm0 an0 cd0 ct0), sl0⟩) (c0 : PySem.W.codeIn K cd0 "is_between" = true) (k0 : PySem.W.keepIn K (.ref f0) = true)
    (a1 : PySem.W.nsIn K mainGlobals "capacity_of_gains" = some (some (.ref f1))) (l1 : K.lookup f1 = some ⟨oc1, od1, .func (PySem.W.fnOf "capacity_of_gains" "capacity_of_gains" (defArgs s_capacity_of_gains) (defBody s_capacity_of_gains) (defScope s_capacity_of_gains) .none kV1 dc1 pm1 an1 cd1 ct1), sl1⟩) (c1 : PySem.W.codeIn K cd1 "capacity_of_gains" = true) (k1 : PySem.W.keepIn K (.ref f1) = true)
    (a2 : PySem.W.nsIn K mainGlobals "gains_of_item" = some (some (.ref f2))) (l2 : K.lookup f2 = some ⟨oc2, od2, .func (PySem.W.fnOf "gains_of_item" "gains_of_item" (defArgs s_gains_of_item) (defBody s_gains_of_item) (defScope s_gains_of_item) .none kV2 dc2 pm2 an2 cd2 ct2), sl2⟩) (c2 : PySem.W.codeIn K cd2 "gains_of_item" = true) (k2 : PySem.W.keepIn K (.ref f2) = true)
    (a3 : PySem.W.nsIn K mainGlobals "capacity_of" = some (some (.ref f3))) (l3 : K.lookup f3 = some ⟨oc3, od3, .func (PySem.W.fnOf "capacity_of" "capacity_of" (defArgs s_capacity_of) (defBody s_capacity_of) (defScope s_capacity_of) .none kV3 dc3 pm3 an3 cd3 ct3), sl3⟩) (c3 : PySem.W.codeIn K cd3 "capacity_of" = true) (k3 : PySem.W.keepIn K (.ref f3) = true)
    (a4 : PySem.W.nsIn K mainGlobals "gain_of_first" = some (some (.ref f4))) (l4 : K.lookup f4 = some ⟨oc4, od4, .func (PySem.W.fnOf "gain_of_first" "gain_of_first" (defArgs s_gain_of_first) (defBody s_gain_of_first) (defScope s_gain_of_first) .none kV4 dc4 pm4 an4 cd4 ct4), sl4⟩) (c4 : PySem.W.codeIn K cd4 "gain_of_first" = true) (k4 : PySem.W.keepIn K (.ref f4) = true)
    (a5 : PySem.W.nsIn K mainGlobals "gain_of_units" = some (some (.ref f5))) (l5 : K.lookup f5 = some ⟨oc5, od5, .func (PySem.W.fnOf "gain_of_units" "gain_of_units" (defArgs s_gain_of_units) (defBody s_gain_of_units) (defScope s_gain_of_units) .none kV5 dc5 pm5 an5 cd5 ct5), sl5⟩) (c5 : PySem.W.codeIn K cd5 "gain_of_units" = true) (k5 : PySem.W.keepIn K (.ref f5) = true)
    (a6 : PySem.W.nsIn K mainGlobals "_law_deck" = some (some (.ref f6))) (l6 : K.lookup f6 = some ⟨oc6, od6, .func (PySem.W.fnOf "_law_deck" "_law_deck" (defArgs s_q_deck) (defBody s_q_deck) (defScope s_q_deck) .none kV6 dc6 pm6 an6 cd6 ct6), sl6⟩) (c6 : PySem.W.codeIn K cd6 "_law_deck" = true) (k6 : PySem.W.keepIn K (.ref f6) = true)
    (a7 : PySem.W.nsIn K mainGlobals "_law_next" = some (some (.ref f7))) (l7 : K.lookup f7 = some ⟨oc7, od7, .func (PySem.W.fnOf "_law_next" "_law_next" (defArgs s_q_next) (defBody s_q_next) (defScope s_q_next) .none kV7 dc7 pm7 an7 cd7 ct7), sl7⟩) (c7 : PySem.W.codeIn K cd7 "_law_next" = true) (k7 : PySem.W.keepIn K (.ref f7) = true)
    (a8 : PySem.W.nsIn K mainGlobals "_law_whole" = some (some (.ref f8))) (l8 : K.lookup f8 = some ⟨oc8, od8, .func (PySem.W.fnOf "_law_whole" "_law_whole" (defArgs s_q_whole) (defBody s_q_whole) (defScope s_q_whole) .none kV8 dc8 pm8 an8 cd8 ct8), sl8⟩) (c8 : PySem.W.codeIn K cd8 "_law_whole" = true) (k8 : PySem.W.keepIn K (.ref f8) = true)
    (a9 : PySem.W.nsIn K mainGlobals "_law_odd" = some (some (.ref f9))) (l9 : K.lookup f9 = some ⟨oc9, od9, .func (PySem.W.fnOf "_law_odd" "_law_odd" (defArgs s_q_odd) (defBody s_q_odd) (defScope s_q_odd) .none kV9 dc9 pm9 an9 cd9 ct9), sl9⟩) (c9 : PySem.W.codeIn K cd9 "_law_odd" = true) (k9 : PySem.W.keepIn K (.ref f9) = true)
    (a10 : PySem.W.nsIn K mainGlobals "_law_great" = some (some (.ref f10))) (l10 : K.lookup f10 = some ⟨oc10, od10, .func (PySem.W.fnOf "_law_great" "_law_great" (defArgs s_q_great) (defBody s_q_great) (defScope s_q_great) .none kV10 dc10 pm10 an10 cd10 ct10), sl10⟩) (c10 : PySem.W.codeIn K cd10 "_law_great" = true) (k10 : PySem.W.keepIn K (.ref f10) = true)
    (a11 : PySem.W.nsIn K mainGlobals "_law_gains" = some (some (.ref f11))) (l11 : K.lookup f11 = some ⟨oc11, od11, .func (PySem.W.fnOf "_law_gains" "_law_gains" (defArgs s_q_gains) (defBody s_q_gains) (defScope s_q_gains) .none kV11 dc11 pm11 an11 cd11 ct11), sl11⟩) (c11 : PySem.W.codeIn K cd11 "_law_gains" = true) (k11 : PySem.W.keepIn K (.ref f11) = true)
    (a12 : PySem.W.nsIn K mainGlobals "_law_capacity" = some (some (.ref f12))) (l12 : K.lookup f12 = some ⟨oc12, od12, .func (PySem.W.fnOf "_law_capacity" "_law_capacity" (defArgs s_q_capacity) (defBody s_q_capacity) (defScope s_q_capacity) .none kV12 dc12 pm12 an12 cd12 ct12), sl12⟩) (c12 : PySem.W.codeIn K cd12 "_law_capacity" = true) (k12 : PySem.W.keepIn K (.ref f12) = true)
    (a13 : PySem.W.nsIn K mainGlobals "_law_family" = some (some (.ref f13))) (l13 : K.lookup f13 = some ⟨oc13, od13, .func (PySem.W.fnOf "_law_family" "_law_family" (defArgs s_q_family) (defBody s_q_family) (defScope s_q_family) .none kV13 dc13 pm13 an13 cd13 ct13), sl13⟩) (c13 : PySem.W.codeIn K cd13 "_law_family" = true) (k13 : PySem.W.keepIn K (.ref f13) = true)
    (a14 : PySem.W.nsIn K mainGlobals "_law_limits" = some (some (.ref f14))) (l14 : K.lookup f14 = some ⟨oc14, od14, .func (PySem.W.fnOf "_law_limits" "_law_limits" (defArgs s_q_limits) (defBody s_q_limits) (defScope s_q_limits) .none kV14 dc14 pm14 an14 cd14 ct14), sl14⟩) (c14 : PySem.W.codeIn K cd14 "_law_limits" = true) (k14 : PySem.W.keepIn K (.ref f14) = true)
    (a15 : PySem.W.nsIn K mainGlobals "_law_system" = some (some (.ref f15))) (l15 : K.lookup f15 = some ⟨oc15, od15, .func (PySem.W.fnOf "_law_system" "_law_system" (defArgs s_q_system) (defBody s_q_system) (defScope s_q_system) .none kV15 dc15 pm15 an15 cd15 ct15), sl15⟩) (c15 : PySem.W.codeIn K cd15 "_law_system" = true) (k15 : PySem.W.keepIn K (.ref f15) = true)
    (a16 : PySem.W.nsIn K mainGlobals "_law_worth" = some (some (.ref f16))) (l16 : K.lookup f16 = some ⟨oc16, od16, .func (PySem.W.fnOf "_law_worth" "_law_worth" (defArgs s_q_worth) (defBody s_q_worth) (defScope s_q_worth) .none kV16 dc16 pm16 an16 cd16 ct16), sl16⟩) (c16 : PySem.W.codeIn K cd16 "_law_worth" = true) (k16 : PySem.W.keepIn K (.ref f16) = true)
    (a17 : PySem.W.nsIn K mainGlobals "_law_told" = some (some (.ref f17))) (l17 : K.lookup f17 = some ⟨oc17, od17, .func (PySem.W.fnOf "_law_told" "_law_told" (defArgs s_q_told) (defBody s_q_told) (defScope s_q_told) .none kV17 dc17 pm17 an17 cd17 ct17), sl17⟩) (c17 : PySem.W.codeIn K cd17 "_law_told" = true) (k17 : PySem.W.keepIn K (.ref f17) = true)
    (a18 : PySem.W.nsIn K mainGlobals "_law_due" = some (some (.ref f18))) (l18 : K.lookup f18 = some ⟨oc18, od18, .func (PySem.W.fnOf "_law_due" "_law_due" (defArgs s_q_due) (defBody s_q_due) (defScope s_q_due) .none kV18 dc18 pm18 an18 cd18 ct18), sl18⟩) (c18 : PySem.W.codeIn K cd18 "_law_due" = true) (k18 : PySem.W.keepIn K (.ref f18) = true)
    (a19 : PySem.W.nsIn K mainGlobals "law" = some (some (.ref f19))) (l19 : K.lookup f19 = some ⟨oc19, od19, .func (PySem.W.fnOf "law" "law" (defArgs s_law) (defBody s_law) (defScope s_law) .none kV19 dc19 pm19 an19 cd19 ct19), sl19⟩) (c19 : PySem.W.codeIn K cd19 "law" = true) (k19 : PySem.W.keepIn K (.ref f19) = true)
    (z0 : PySem.W.nsIn K mainGlobals "sum" = some none)
    (z1 : PySem.W.nsIn K mainGlobals "range" = some none)
    (z2 : PySem.W.nsIn K mainGlobals "tuple" = some none)
    (z3 : PySem.W.nsIn K mainGlobals "list" = some none)
    (z4 : PySem.W.nsIn K mainGlobals "isinstance" = some none)
    (z5 : PySem.W.nsIn K mainGlobals "bool" = some none)
    (z6 : PySem.W.nsIn K mainGlobals "min" = some none)
    (z7 : PySem.W.nsIn K mainGlobals "abs" = some none)
    (z8 : PySem.W.nsIn K mainGlobals "int" = some none)
    (z9 : PySem.W.nsIn K mainGlobals "max" = some none)
    (z10 : PySem.W.nsIn K mainGlobals "len" = some none)
    (z11 : PySem.W.nsIn K mainGlobals "repr" = some none)
    (z12 : PySem.W.nsIn K mainGlobals "sorted" = some none)
    (eA0 : PySem.W.nsIn K mainGlobals "NoItem" = some (some (.ref C0))) (eL0 : K.lookup C0 = some (excClassObj nm0 q0 C0 N0 bs0 bm0 true sn0 sb0 ab0 co0 dd0 u0 v0 w0 x0 y0 "ValueError.__new__")) (eR0 : PySem.HandSPX.refsVE bm0 = true)
    (eS0 : PySem.W.findIn K (.ref C0) "__setattr__" = some (some (.builtin "object.__setattr__"))) (eX0 : PySem.W.subIn K (.ref C0) (.type "BaseException") = some true) (eT0 : PySem.W.typeIn K (.ref C0) = some (.type "type")) (eK0 : PySem.W.keepIn K (.ref C0) = true)
    (eI0 : PySem.W.findIn K (.ref C0) "__init__" = some (some (.ref I0))) (eY0 : PySem.W.typeIn K (.ref I0) = some (.type "function")) (eM0 : K.lookup I0 = some ⟨oc_0, od_0, .func (PySem.W.fnOf "__init__" "NoItem.__init__" (defArgs sI_item) (defBody sI_item) (defScope sI_item) .none kV_0 dc_0 pm_0 an_0 cd_0 ct_0), sl_0⟩) (eC0 : PySem.W.codeIn K cd_0 "NoItem.__init__" = true) (eJ0 : PySem.W.keepIn K (.ref I0) = true)
    (eN0 : PySem.W.findIn K (.ref C0) "item" = some none) (eG0 : PySem.W.findIn K (.ref C0) "__getattribute__" = some (some (.builtin "BaseException.__getattribute__"))) (eH0 : PySem.W.findIn K (.ref C0) "__getattr__" = some none) (eD0 : PySem.W.hasDictIn K C0 = true)
    (eP0 : PySem.W.findIn K (.ref C0) "__class__" = some (some (.builtin "object.__class__"))) (eO0 : PySem.W.mroIn K C0 (.type "object") = some true)
    (eA1 : PySem.W.nsIn K mainGlobals "NoUnits" = some (some (.ref C1))) (eL1 : K.lookup C1 = some (excClassObj nm1 q1 C1 N1 bs1 bm1 true sn1 sb1 ab1 co1 dd1 u1 v1 w1 x1 y1 "ValueError.__new__")) (eR1 : PySem.HandSPX.refsVE bm1 = true)
    (eS1 : PySem.W.findIn K (.ref C1) "__setattr__" = some (some (.builtin "object.__setattr__"))) (eX1 : PySem.W.subIn K (.ref C1) (.type "BaseException") = some true) (eT1 : PySem.W.typeIn K (.ref C1) = some (.type "type")) (eK1 : PySem.W.keepIn K (.ref C1) = true)
    (eI1 : PySem.W.findIn K (.ref C1) "__init__" = some (some (.ref I1))) (eY1 : PySem.W.typeIn K (.ref I1) = some (.type "function")) (eM1 : K.lookup I1 = some ⟨oc_1, od_1, .func (PySem.W.fnOf "__init__" "NoUnits.__init__" (defArgs sI_units) (defBody sI_units) (defScope sI_units) .none kV_1 dc_1 pm_1 an_1 cd_1 ct_1), sl_1⟩) (eC1 : PySem.W.codeIn K cd_1 "NoUnits.__init__" = true) (eJ1 : PySem.W.keepIn K (.ref I1) = true)
    (eN1 : PySem.W.findIn K (.ref C1) "units" = some none) (eG1 : PySem.W.findIn K (.ref C1) "__getattribute__" = some (some (.builtin "BaseException.__getattribute__"))) (eH1 : PySem.W.findIn K (.ref C1) "__getattr__" = some none) (eD1 : PySem.W.hasDictIn K C1 = true)
    (eP1 : PySem.W.findIn K (.ref C1) "__class__" = some (some (.builtin "object.__class__"))) (eO1 : PySem.W.mroIn K C1 (.type "object") = some true)
    (sp1 : PySem.W.specialIn K (.builtin "object.__class__") "__get__" = some (some (.builtin "getset_descriptor.__get__"))) (sp2 : PySem.W.takesIn K (.builtin "object.__class__") = some true)
    (pA0 : PySem.W.nsIn K mainGlobals "CapError" = some (some (.ref P0)))
    (pA1 : PySem.W.nsIn K mainGlobals "NoNumber" = some (some (.ref P1)))
    (pA2 : PySem.W.nsIn K mainGlobals "NoPlan" = some (some (.ref P2)))
    (pA3 : PySem.W.nsIn K mainGlobals "NoTotal" = some (some (.ref P3)))
    (xE0 : PySem.W.exmOne K (.ref C0) (.ref P0) = some true) (xE1 : PySem.W.exmOne K (.ref C1) (.ref P0) = some true)
    (kk1 : PySem.W.kitOne K (.ref C0) (.ref C0) = some true) (kk2 : PySem.W.kitOne K (.ref C0) (.ref C1) = some false) (kk3 : PySem.W.kitOne K (.ref C1) (.ref C0) = some false) (kk4 : PySem.W.kitOne K (.ref C1) (.ref C1) = some true)
    (kk5 : PySem.W.kitAny K (.ref C0) [.ref C1, .ref P1, .ref P2, .ref P3] = some false) (kk6 : PySem.W.kitAny K (.ref C1) [.ref C0, .ref P1, .ref P2, .ref P3] = some false)
    : ∃ fd : FuncData, (∀ (s : Shared) (v : Value), BindsTo s fd ⟨[v], []⟩ [("_law_script", v)]) ∧ ∀ base : Heap, K.In base → base.Ns mainGlobals mg → FnG P w K mg base CX0 6 fa fd p_law (sp_law K) := by
  have e := hfa.symm.trans (PySem.W.mg_of X G a19)
  cases e
  have F0 := fun_mk (st := s_is_between) l0 c0 k0
  have b0 := F0.binds (ps := p_is_between) fun _ _ _ _ _ _ us hl => match us, hl with | [_, _, _], _ => rfl
  have F1 := fun_mk (st := s_capacity_of_gains) l1 c1 k1
  have b1 := F1.binds (ps := p_capacity_of_gains) fun _ _ _ _ _ _ us hl => match us, hl with | [_], _ => rfl
  have F2 := fun_mk (st := s_gains_of_item) l2 c2 k2
  have b2 := F2.binds (ps := p_gains_of_item) fun _ _ _ _ _ _ us hl => match us, hl with | [_, _], _ => rfl
  have F3 := fun_mk (st := s_capacity_of) l3 c3 k3
  have b3 := F3.binds (ps := p_capacity_of) fun _ _ _ _ _ _ us hl => match us, hl with | [_, _], _ => rfl
  have F4 := fun_mk (st := s_gain_of_first) l4 c4 k4
  have b4 := F4.binds (ps := p_gain_of_first) fun _ _ _ _ _ _ us hl => match us, hl with | [_, _], _ => rfl
  have F5 := fun_mk (st := s_gain_of_units) l5 c5 k5
  have b5 := F5.binds (ps := p_gain_of_units) fun _ _ _ _ _ _ us hl => match us, hl with | [_, _, _], _ => rfl
  have F6 := fun_mk (st := s_q_deck) l6 c6 k6
  have b6 := F6.binds (ps := p_q_deck) fun _ _ _ _ _ _ us hl => match us, hl with | [_], _ => rfl
  have F7 := fun_mk (st := s_q_next) l7 c7 k7
  have b7 := F7.binds (ps := p_q_next) fun _ _ _ _ _ _ us hl => match us, hl with | [_, _], _ => rfl
  have F8 := fun_mk (st := s_q_whole) l8 c8 k8
  have b8 := F8.binds (ps := p_q_whole) fun _ _ _ _ _ _ us hl => match us, hl with | [_], _ => rfl
  have F9 := fun_mk (st := s_q_odd) l9 c9 k9
  have b9 := F9.binds (ps := p_q_odd) fun _ _ _ _ _ _ us hl => match us, hl with | [_], _ => rfl
  have F10 := fun_mk (st := s_q_great) l10 c10 k10
  have b10 := F10.binds (ps := p_q_great) fun _ _ _ _ _ _ us hl => match us, hl with | [_], _ => rfl
  have F11 := fun_mk (st := s_q_gains) l11 c11 k11
  have b11 := F11.binds (ps := p_q_gains) fun _ _ _ _ _ _ us hl => match us, hl with | [_, _, _], _ => rfl
  have F12 := fun_mk (st := s_q_capacity) l12 c12 k12
  have b12 := F12.binds (ps := p_q_capacity) fun _ _ _ _ _ _ us hl => match us, hl with | [_], _ => rfl
  have F13 := fun_mk (st := s_q_family) l13 c13 k13
  have b13 := F13.binds (ps := p_q_family) fun _ _ _ _ _ _ us hl => match us, hl with | [_, _], _ => rfl
  have F14 := fun_mk (st := s_q_limits) l14 c14 k14
  have b14 := F14.binds (ps := p_q_limits) fun _ _ _ _ _ _ us hl => match us, hl with | [_, _, _], _ => rfl
  have F15 := fun_mk (st := s_q_system) l15 c15 k15
  have b15 := F15.binds (ps := p_q_system) fun _ _ _ _ _ _ us hl => match us, hl with | [_, _, _, _], _ => rfl
  have F16 := fun_mk (st := s_q_worth) l16 c16 k16
  have b16 := F16.binds (ps := p_q_worth) fun _ _ _ _ _ _ us hl => match us, hl with | [_, _], _ => rfl
  have F17 := fun_mk (st := s_q_told) l17 c17 k17
  have b17 := F17.binds (ps := p_q_told) fun _ _ _ _ _ _ us hl => match us, hl with | [_, _, _, _], _ => rfl
  have F18 := fun_mk (st := s_q_due) l18 c18 k18
  have b18 := F18.binds (ps := p_q_due) fun _ _ _ _ _ _ us hl => match us, hl with | [_, _, _], _ => rfl
  have F19 := fun_mk (st := s_law) l19 c19 k19
  have b19 := F19.binds (ps := p_law) fun _ _ _ _ _ _ us hl => match us, hl with | [_], _ => rfl
  let T : Txt K mg := {
    a_is_between := f0, d_is_between := _, F_is_between := F0, b_is_between := b0, g_is_between := PySem.W.mg_of X G a0,
    a_capacity_of_gains := f1, d_capacity_of_gains := _, F_capacity_of_gains := F1, b_capacity_of_gains := b1, g_capacity_of_gains := PySem.W.mg_of X G a1,
    a_gains_of_item := f2, d_gains_of_item := _, F_gains_of_item := F2, b_gains_of_item := b2, g_gains_of_item := PySem.W.mg_of X G a2,
    a_capacity_of := f3, d_capacity_of := _, F_capacity_of := F3, b_capacity_of := b3, g_capacity_of := PySem.W.mg_of X G a3,
    a_gain_of_first := f4, d_gain_of_first := _, F_gain_of_first := F4, b_gain_of_first := b4, g_gain_of_first := PySem.W.mg_of X G a4,
    a_gain_of_units := f5, d_gain_of_units := _, F_gain_of_units := F5, b_gain_of_units := b5, g_gain_of_units := PySem.W.mg_of X G a5,
    a_q_deck := f6, d_q_deck := _, F_q_deck := F6, b_q_deck := b6, g_q_deck := PySem.W.mg_of X G a6,
    a_q_next := f7, d_q_next := _, F_q_next := F7, b_q_next := b7, g_q_next := PySem.W.mg_of X G a7,
    a_q_whole := f8, d_q_whole := _, F_q_whole := F8, b_q_whole := b8, g_q_whole := PySem.W.mg_of X G a8,
    a_q_odd := f9, d_q_odd := _, F_q_odd := F9, b_q_odd := b9, g_q_odd := PySem.W.mg_of X G a9,
    a_q_great := f10, d_q_great := _, F_q_great := F10, b_q_great := b10, g_q_great := PySem.W.mg_of X G a10,
    a_q_gains := f11, d_q_gains := _, F_q_gains := F11, b_q_gains := b11, g_q_gains := PySem.W.mg_of X G a11,
    a_q_capacity := f12, d_q_capacity := _, F_q_capacity := F12, b_q_capacity := b12, g_q_capacity := PySem.W.mg_of X G a12,
    a_q_family := f13, d_q_family := _, F_q_family := F13, b_q_family := b13, g_q_family := PySem.W.mg_of X G a13,
    a_q_limits := f14, d_q_limits := _, F_q_limits := F14, b_q_limits := b14, g_q_limits := PySem.W.mg_of X G a14,
    a_q_system := f15, d_q_system := _, F_q_system := F15, b_q_system := b15, g_q_system := PySem.W.mg_of X G a15,
    a_q_worth := f16, d_q_worth := _, F_q_worth := F16, b_q_worth := b16, g_q_worth := PySem.W.mg_of X G a16,
    a_q_told := f17, d_q_told := _, F_q_told := F17, b_q_told := b17, g_q_told := PySem.W.mg_of X G a17,
    a_q_due := f18, d_q_due := _, F_q_due := F18, b_q_due := b18, g_q_due := PySem.W.mg_of X G a18,
    a_law := fa, d_law := _, F_law := F19, b_law := b19, g_law := PySem.W.mg_of X G a19,
    m_sum := PySem.W.mg_none_of X G z0, m_range := PySem.W.mg_none_of X G z1, m_tuple := PySem.W.mg_none_of X G z2, m_list := PySem.W.mg_none_of X G z3, m_isinstance := PySem.W.mg_none_of X G z4, m_bool := PySem.W.mg_none_of X G z5, m_min := PySem.W.mg_none_of X G z6, m_abs := PySem.W.mg_none_of X G z7, m_int := PySem.W.mg_none_of X G z8, m_max := PySem.W.mg_none_of X G z9, m_len := PySem.W.mg_none_of X G z10, m_repr := PySem.W.mg_none_of X G z11, m_sorted := PySem.W.mg_none_of X G z12 }
  have FI0 := fun_mk (st := sI_item) eM0 eC0 eJ0
  have bI0 := FI0.binds (ps := ["self", "item"]) fun _ _ _ _ _ _ us hl => match us, hl with | [_, _], _ => rfl
  let Y0 : ErrC K mg "NoItem" "NoItem.__init__" "item" sI_item := { C := C0, fI := I0, fd := _, g := PySem.W.mg_of X G eA0, ox := ⟨⟨nm0, q0, N0, bs0, bm0, sn0, sb0, ab0, co0, dd0, u0, v0, w0, x0, y0, eL0, eR0⟩, eS0, eX0, eT0, eK0⟩, iC := eI0, tI := eY0, F := FI0, b := bI0, no := eN0, xf := ⟨eG0, eH0, eX0, eD0⟩, ec := ⟨eG0, eH0, eX0, eD0, eP0, sp1, sp2, eO0⟩ }
  have FI1 := fun_mk (st := sI_units) eM1 eC1 eJ1
  have bI1 := FI1.binds (ps := ["self", "units"]) fun _ _ _ _ _ _ us hl => match us, hl with | [_, _], _ => rfl
  let Y1 : ErrC K mg "NoUnits" "NoUnits.__init__" "units" sI_units := { C := C1, fI := I1, fd := _, g := PySem.W.mg_of X G eA1, ox := ⟨⟨nm1, q1, N1, bs1, bm1, sn1, sb1, ab1, co1, dd1, u1, v1, w1, x1, y1, eL1, eR1⟩, eS1, eX1, eT1, eK1⟩, iC := eI1, tI := eY1, F := FI1, b := bI1, no := eN1, xf := ⟨eG1, eH1, eX1, eD1⟩, ec := ⟨eG1, eH1, eX1, eD1, eP1, sp1, sp2, eO1⟩ }
  let Z : XTxt K mg := { I := Y0, U := Y1, cap := P0, n1 := P1, n2 := P2, n3 := P3, gCap := PySem.W.mg_of X G pA0, g1 := PySem.W.mg_of X G pA1, g2 := PySem.W.mg_of X G pA2, g3 := PySem.W.mg_of X G pA3, eI := xE0, eU := xE1, kII := kk1, kIU := kk2, kUI := kk3, kUU := kk4, kI := kk5, kU := kk6 }
  exact ⟨_, fun s v => .of_eq rfl, fun base _ _ => ok_law T Z⟩
end My
open PySem PySem.W PyProof.Rows
set_option maxHeartbeats 0 in
theorem PySem.Challenge.cw_groupcaps_k03_gains_of_units_holds : PySem.Challenge.rw_groupcaps_k03_gains_of_units.Holds := by
  w_on; o_law; k_head; (case hw => w_witness2)
  k_fill
  refine My.walkG (l := PySem.Challenge.rw_groupcaps_k03_gains_of_units) (n := 63) (k := 6) (x := "_law_script") (CX := fun _ => L2.CX0) (sp := fun w => My.sp_law _) rfl (by decide) rfl ⟨rfl, by decide, by decide⟩ (fun w h Y => PySem.W.kIn_of Y) ?F (fun _ _ a ns hl hS => ⟨a, ns, rfl, hS, hl, fun _ => rfl⟩) (fun _ _ _ _ _ h => h)
  case F =>
    intro w mg fa h KX G hmg
    refine' My.all_mk KX G hmg ?a0 ?l0 ?c0 ?k0 ?a1 ?l1 ?c1 ?k1 ?a2 ?l2 ?c2 ?k2 ?a3 ?l3 ?c3 ?k3 ?a4 ?l4 ?c4 ?k4 ?a5 ?l5 ?c5 ?k5 ?a6 ?l6 ?c6 ?k6 ?a7 ?l7 ?c7 ?k7 ?a8 ?l8 ?c8 ?k8 ?a9 ?l9 ?c9 ?k9 ?a10 ?l10 ?c10 ?k10 ?a11 ?l11 ?c11 ?k11 ?a12 ?l12 ?c12 ?k12 ?a13 ?l13 ?c13 ?k13 ?a14 ?l14 ?c14 ?k14 ?a15 ?l15 ?c15 ?k15 ?a16 ?l16 ?c16 ?k16 ?a17 ?l17 ?c17 ?k17 ?a18 ?l18 ?c18 ?k18 ?a19 ?l19 ?c19 ?k19 ?z0 ?z1 ?z2 ?z3 ?z4 ?z5 ?z6 ?z7 ?z8 ?z9 ?z10 ?z11 ?z12 ?eA0 ?eL0 ?eR0 ?eS0 ?eX0 ?eT0 ?eK0 ?eI0 ?eY0 ?eM0 ?eC0 ?eJ0 ?eN0 ?eG0 ?eH0 ?eD0 ?eP0 ?eO0 ?eA1 ?eL1 ?eR1 ?eS1 ?eX1 ?eT1 ?eK1 ?eI1 ?eY1 ?eM1 ?eC1 ?eJ1 ?eN1 ?eG1 ?eH1 ?eD1 ?eP1 ?eO1 ?sp1 ?sp2 ?pA0 ?pA1 ?pA2 ?pA3 ?xE0 ?xE1 ?kk1 ?kk2 ?kk3 ?kk4 ?kk5 ?kk6
    (case a0 => k_is); (case l0 => k_is); (case c0 => k_is); (case k0 => k_is); (case a1 => k_is); (case l1 => k_is); (case c1 => k_is); (case k1 => k_is); (case a2 => k_is); (case l2 => k_is); (case c2 => k_is); (case k2 => k_is); (case a3 => k_is); (case l3 => k_is); (case c3 => k_is); (case k3 => k_is); (case a4 => k_is); (case l4 => k_is); (case c4 => k_is); (case k4 => k_is); (case a5 => k_is); (case l5 => k_is); (case c5 => k_is); (case k5 => k_is); (case a6 => k_is); (case l6 => k_is); (case c6 => k_is); (case k6 => k_is); (case a7 => k_is); (case l7 => k_is); (case c7 => k_is); (case k7 => k_is); (case a8 => k_is); (case l8 => k_is); (case c8 => k_is); (case k8 => k_is); (case a9 => k_is); (case l9 => k_is); (case c9 => k_is); (case k9 => k_is); (case a10 => k_is); (case l10 => k_is); (case c10 => k_is); (case k10 => k_is); (case a11 => k_is); (case l11 => k_is); (case c11 => k_is); (case k11 => k_is); (case a12 => k_is); (case l12 => k_is); (case c12 => k_is); (case k12 => k_is); (case a13 => k_is); (case l13 => k_is); (case c13 => k_is); (case k13 => k_is); (case a14 => k_is); (case l14 => k_is); (case c14 => k_is); (case k14 => k_is); (case a15 => k_is); (case l15 => k_is); (case c15 => k_is); (case k15 => k_is); (case a16 => k_is); (case l16 => k_is); (case c16 => k_is); (case k16 => k_is); (case a17 => k_is); (case l17 => k_is); (case c17 => k_is); (case k17 => k_is); (case a18 => k_is); (case l18 => k_is); (case c18 => k_is); (case k18 => k_is); (case a19 => k_is); (case l19 => k_is); (case c19 => k_is); (case k19 => k_is); (case z0 => k_is); (case z1 => k_is); (case z2 => k_is); (case z3 => k_is); (case z4 => k_is); (case z5 => k_is); (case z6 => k_is); (case z7 => k_is); (case z8 => k_is); (case z9 => k_is); (case z10 => k_is); (case z11 => k_is); (case z12 => k_is); (case eA0 => k_is); (case eL0 => k_is); (case eR0 => decide +kernel); (case eS0 => k_is); (case eX0 => k_is); (case eT0 => k_is); (case eK0 => k_is); (case eI0 => k_is); (case eY0 => k_is); (case eM0 => k_is); (case eC0 => k_is); (case eJ0 => k_is); (case eN0 => k_is); (case eG0 => k_is); (case eH0 => k_is); (case eD0 => k_is); (case eP0 => k_is); (case eO0 => k_is); (case eA1 => k_is); (case eL1 => k_is); (case eR1 => decide +kernel); (case eS1 => k_is); (case eX1 => k_is); (case eT1 => k_is); (case eK1 => k_is); (case eI1 => k_is); (case eY1 => k_is); (case eM1 => k_is); (case eC1 => k_is); (case eJ1 => k_is); (case eN1 => k_is); (case eG1 => k_is); (case eH1 => k_is); (case eD1 => k_is); (case eP1 => k_is); (case eO1 => k_is); (case sp1 => k_is); (case sp2 => k_is); (case pA0 => k_is); (case pA1 => k_is); (case pA2 => k_is); (case pA3 => k_is); (case xE0 => first | rfl | k_is); (case xE1 => first | rfl | k_is); (case kk1 => first | rfl | k_is); (case kk2 => first | rfl | k_is); (case kk3 => first | rfl | k_is); (case kk4 => first | rfl | k_is); (case kk5 => first | rfl | k_is); (case kk6 => first | rfl | k_is)


import PyProof.Rows.All
import Wide.All
import OpenK.AllK
import Wide.FinOn
import HandS.ForMost
import HandS.ForExc
import HandS.TupMul
import HandS.Wide
import HandS.TupAny
import HandS.Deep
import HandS.TupLe
import HandS.Style
import PyProof.Rows.IntBool
import HandS.DeepEq
import HandS.Walk
import HandS.Zip
import HandS.Rev
import HandS.RevRange
import HandS.CallSlots
import HandS.IsInst
import HandS.TryOnly
import HandS.SortInts
import HandS.Conv
import HandS.SortKw
import KE.KRevSl
import HandS.Dict
import KE.GoesMore
import HandS.Iter
import HandS.RaiseMore
import HandS.Ends
import PySem.Challenge.RW_groupcaps_k21_bounds_of_prices
set_option Elab.async false
set_option linter.all false
set_option maxRecDepth 100000
/-! F0: data, what stands for them in the heap, the world, the state of a frame. -/
namespace FD
open PySem PySem.Spec PyProof.Rows L2

/-- a datum: what a value means, without addresses -/
inductive D where
  | non | bl (b : Bool) | int (i : Int) | str (x : Str)
  | tup (ds : List D) | lst (ds : List D)
  | dct (kvs : List (Key × D))
  | obj (c : Str) (fs : List (Str × D))
  | ty (n : String) | hnd (n : Nat)

/-- the world: what is hidden from the data (the deck), with its state; the classes' addresses -/
structure Wd where
  T : Type
  On : T → Hp → Prop
  hid : Addr → Prop
  val : Nat → V
  ca : Str → Addr
  loc : ∀ t H H', On t H → (∀ a o, hid a → H a = some o → H' a = some o) → On t H'
  trk : ∀ t H a, On t H → hid a → ∃ o, H a = some o ∧ ∀ xs, o ≠ .tup xs

mutual
inductive Den (Z : Wd) (O : Addr → Prop) (H : Hp) : V → D → Prop
  | non : Den Z O H .non .non
  | bl (b : Bool) : Den Z O H (.bl b) (.bl b)
  | int (i : Int) : Den Z O H (.int i) (.int i)
  | str (x : Str) : Den Z O H (.str x) (.str x)
  | ty (n : String) : Den Z O H (.ty n) (.ty n)
  | hnd (n : Nat) : Den Z O H (Z.val n) (.hnd n)
  | ref {a : Addr} {o : HO} {d : D} : H a = some o → ¬ O a → Cont Z O H o d → Den Z O H (.ref a) d
/-- what an object holds -/
inductive Cont (Z : Wd) (O : Addr → Prop) (H : Hp) : HO → D → Prop
  | tup {xs : List V} {ds : List D} : DenA Z O H xs ds → Cont Z O H (.tup xs) (.tup ds)
  | lst {xs : List V} {ds : List D} : DenA Z O H xs ds → Cont Z O H (.lst xs) (.lst ds)
  | dct {xs : List (Key × V)} {ds : List (Key × D)} : DenK Z O H xs ds → Cont Z O H (.dK xs) (.dct ds)
  | obj {c : Str} {dx : Addr} {fs : List (Str × V)} {ds : List (Str × D)} : DenF Z O H fs ds → Cont Z O H (.ins (Z.ca c) dx fs) (.obj c ds)
inductive DenA (Z : Wd) (O : Addr → Prop) (H : Hp) : List V → List D → Prop
  | nil : DenA Z O H [] []
  | cons {v : V} {vs : List V} {d : D} {ds : List D} : Den Z O H v d → DenA Z O H vs ds → DenA Z O H (v :: vs) (d :: ds)
inductive DenK (Z : Wd) (O : Addr → Prop) (H : Hp) : List (Key × V) → List (Key × D) → Prop
  | nil : DenK Z O H [] []
  | cons {k : Key} {v : V} {vs : List (Key × V)} {d : D} {ds : List (Key × D)} : Den Z O H v d → DenK Z O H vs ds → DenK Z O H ((k, v) :: vs) ((k, d) :: ds)
inductive DenF (Z : Wd) (O : Addr → Prop) (H : Hp) : List (Str × V) → List (Str × D) → Prop
  | nil : DenF Z O H [] []
  | cons {k : Str} {v : V} {vs : List (Str × V)} {d : D} {ds : List (Str × D)} : Den Z O H v d → DenF Z O H vs ds → DenF Z O H ((k, v) :: vs) ((k, d) :: ds)
end

section
variable {Z : Wd} {O O' : Addr → Prop} {H H' : Hp}
mutual
theorem Den.mono (k : ∀ a o, H a = some o → ¬ O a → H' a = some o ∧ ¬ O' a) : ∀ {v : V} {d : D}, Den Z O H v d → Den Z O' H' v d
  | _, _, .non => .non
  | _, _, .bl b => .bl b
  | _, _, .int i => .int i
  | _, _, .str x => .str x
  | _, _, .ty x => .ty x
  | _, _, .hnd n => .hnd n
  | _, _, .ref e n c => .ref (k _ _ e n).1 (k _ _ e n).2 (Cont.mono k c)
theorem Cont.mono (k : ∀ a o, H a = some o → ¬ O a → H' a = some o ∧ ¬ O' a) : ∀ {o : HO} {d : D}, Cont Z O H o d → Cont Z O' H' o d
  | _, _, .tup c => .tup (DenA.mono k c)
  | _, _, .lst c => .lst (DenA.mono k c)
  | _, _, .dct c => .dct (DenK.mono k c)
  | _, _, .obj c => .obj (DenF.mono k c)
theorem DenA.mono (k : ∀ a o, H a = some o → ¬ O a → H' a = some o ∧ ¬ O' a) : ∀ {v : List V} {d : List D}, DenA Z O H v d → DenA Z O' H' v d
  | _, _, .nil => .nil
  | _, _, .cons h r => .cons (Den.mono k h) (DenA.mono k r)
theorem DenK.mono (k : ∀ a o, H a = some o → ¬ O a → H' a = some o ∧ ¬ O' a) : ∀ {v : List (Key × V)} {d : List (Key × D)}, DenK Z O H v d → DenK Z O' H' v d
  | _, _, .nil => .nil
  | _, _, .cons h r => .cons (Den.mono k h) (DenK.mono k r)
theorem DenF.mono (k : ∀ a o, H a = some o → ¬ O a → H' a = some o ∧ ¬ O' a) : ∀ {v : List (Str × V)} {d : List (Str × D)}, DenF Z O H v d → DenF Z O' H' v d
  | _, _, .nil => .nil
  | _, _, .cons h r => .cons (Den.mono k h) (DenF.mono k r)
end
theorem DenA.len : ∀ {vs : List V} {ds : List D}, DenA Z O H vs ds → vs.length = ds.length
  | _, _, .nil => rfl
  | _, _, .cons _ r => by rw [List.length_cons, List.length_cons, DenA.len r]
theorem DenA.get : ∀ {vs : List V} {ds : List D} {i : Nat} {v : V}, DenA Z O H vs ds → vs[i]? = some v → ∃ d, ds[i]? = some d ∧ Den Z O H v d
  | _, _, _, _, .nil, e => by cases e
  | _, _, 0, _, .cons h _, e => by
    cases e
    exact ⟨_, rfl, h⟩
  | _, _, i + 1, _, .cons _ r, e => DenA.get (i := i) r e
theorem DenA.get2 : ∀ {vs : List V} {ds : List D} {i : Nat} {d : D}, DenA Z O H vs ds → ds[i]? = some d → ∃ v, vs[i]? = some v ∧ Den Z O H v d
  | _, _, _, _, .nil, e => by cases e
  | _, _, 0, _, .cons h _, e => by
    cases e
    exact ⟨_, rfl, h⟩
  | _, _, i + 1, _, .cons _ r, e => DenA.get2 (i := i) r e
theorem DenA.app : ∀ {vs ws : List V} {ds es : List D}, DenA Z O H vs ds → DenA Z O H ws es → DenA Z O H (vs ++ ws) (ds ++ es)
  | _, _, _, _, .nil, k => k
  | _, _, _, _, .cons h r, k => .cons h (DenA.app r k)
theorem DenA.one {v : V} {d : D} (h : Den Z O H v d) : DenA Z O H [v] [d] := .cons h .nil
theorem DenA.take : ∀ {vs : List V} {ds : List D} (n : Nat), DenA Z O H vs ds → DenA Z O H (vs.take n) (ds.take n)
  | _, _, 0, _ => .nil
  | _, _, _ + 1, .nil => .nil
  | _, _, n + 1, .cons r t => .cons r (DenA.take n t)
theorem DenA.drop : ∀ {vs : List V} {ds : List D} (n : Nat), DenA Z O H vs ds → DenA Z O H (vs.drop n) (ds.drop n)
  | _, _, 0, r => r
  | _, _, _ + 1, .nil => .nil
  | _, _, n + 1, .cons _ t => DenA.drop n t
theorem DenA.set : ∀ {vs : List V} {ds : List D} {v : V} {d : D} (n : Nat), DenA Z O H vs ds → Den Z O H v d → DenA Z O H (vs.set n v) (ds.set n d)
  | _, _, _, _, _, .nil, _ => .nil
  | _, _, _, _, 0, .cons _ t, h => .cons h t
  | _, _, _, _, n + 1, .cons r t, h => .cons r (DenA.set n t h)
theorem denA_ints : ∀ ns : List Int, DenA Z O H (ns.map V.int) (ns.map D.int)
  | [] => .nil
  | n :: r => .cons (.int n) (denA_ints r)
theorem DenF.lookup {f : Str} : ∀ {vs : List (Str × V)} {ds : List (Str × D)} {d : D}, DenF Z O H vs ds → ds.lookup f = some d → ∃ v, vs.lookup f = some v ∧ Den Z O H v d
  | _, _, _, .nil, e => by cases e
  | (k, v) :: vs, (_, d) :: ds, d', .cons h r, e => by
    rw [List.lookup_cons] at e ⊢
    cases q : f == k with
    | true =>
      rw [q] at e
      cases e
      exact ⟨v, rfl, h⟩
    | false =>
      rw [q] at e
      exact DenF.lookup r e
theorem DenF.keys {f : Str} : ∀ {vs : List (Str × V)} {ds : List (Str × D)}, DenF Z O H vs ds → vs.map (·.1) = ds.map (·.1)
  | _, _, .nil => rfl
  | _, _, .cons _ r => by rw [List.map_cons, List.map_cons, DenF.keys (f := f) r]
end

/-- a slot: unset, a datum that others may hold too, a datum that no one else holds, the frame's own fixed value (an exception that is handled) -/
inductive Sl where
  | no | v (d : D) | o (d : D) | x

/-- the addresses that are not to be seen through data: the callers', the slots' own ones and the pending one (at 0) -/
def Hid (O₀ : Addr → Prop) (ow : Nat → Option Addr) : Addr → Prop := fun a => O₀ a ∨ ∃ i, ow i = some a

/-- an exception's fields, in its dict -/
def ExOk (Z : Wd) (O : Addr → Prop) (H : Hp) : Option Addr → List (Str × D) → Prop
  | none, fs => fs = []
  | some a, fs => ∃ vs, H a = some (.xd vs) ∧ ¬ O a ∧ DenF Z O H vs fs
theorem ExOk.mono {Z : Wd} {O O' : Addr → Prop} {H H' : Hp} (k : ∀ a o, H a = some o → ¬ O a → H' a = some o ∧ ¬ O' a) {d : Option Addr} {fs : List (Str × D)} (h : ExOk Z O H d fs) : ExOk Z O' H' d fs := by
  cases d with
  | none => exact h
  | some a =>
    obtain ⟨vs, e, n, q⟩ := h
    exact ⟨vs, (k a _ e n).1, (k a _ e n).2, q.mono k⟩
/-- an exception that is handled: its value, its dict, its fields by data -/
structure Exv where
  v : V
  d : Option Addr
  fs : List (Str × D)
def noEv : Exv := ⟨.non, none, []⟩
/-- what stands in slot i -/
def SlotOk (Z : Wd) (ev : Exv) (O : Addr → Prop) (H : Hp) (ow : Nat → Option Addr) (σ : L2.St) (i : Nat) : Sl → Prop
  | .no => True
  | .v d => ∃ v, σ[i]? = some (some v) ∧ Den Z O H v d
  | .o d => ∃ a o, ow (i + 1) = some a ∧ σ[i]? = some (some (V.ref a)) ∧ H a = some o ∧ Cont Z O H o d
  | .x => σ[i]? = some (some ev.v) ∧ ExOk Z O H ev.d ev.fs

/-- the frame's state, by data -/
structure Rel (Z : Wd) (ev : Exv) (O₀ : Addr → Prop) (H₀ : Hp) (ow : Nat → Option Addr) (τ : List Sl) (t : Z.T) (σ : L2.St) (H : Hp) : Prop where
  on : Z.On t H
  hid : ∀ a, Z.hid a → O₀ a
  hidT : ∀ a, O₀ a → ∃ o, H₀ a = some o ∧ ∀ xs, o ≠ .tup xs
  grow : ∀ a o, H₀ a = some o → ¬ Z.hid a → H a = some o
  len : τ.length = σ.length
  slot : ∀ (i : Nat) (s : Sl), τ[i]? = some s → SlotOk Z ev (Hid O₀ ow) H ow σ i s
  inj : ∀ i j a, ow i = some a → ow j = some a → i = j
  new : ∀ i a, ow i = some a → H₀ a = none ∧ ∃ o, H a = some o ∧ ∀ xs, o ≠ .tup xs

/-- what was to be seen is to be seen, as it was -/
structure Ext (O : Addr → Prop) (H : Hp) (O' : Addr → Prop) (H' : Hp) : Prop where
  kept : ∀ a o, H a = some o → ¬ O a → H' a = some o
  hid : ∀ a, O' a → O a ∨ H a = none
theorem Ext.refl {O : Addr → Prop} {H : Hp} : Ext O H O H := ⟨fun _ _ e _ => e, fun _ h => .inl h⟩
theorem Ext.see {O O' : Addr → Prop} {H H' : Hp} (x : Ext O H O' H') : ∀ a o, H a = some o → ¬ O a → H' a = some o ∧ ¬ O' a := fun a o e n =>
  ⟨x.kept a o e n, fun h => (x.hid a h).elim n fun z => by rw [e] at z; cases z⟩
theorem Ext.trans {O O1 O2 : Addr → Prop} {H H1 H2 : Hp} (x : Ext O H O1 H1) (y : Ext O1 H1 O2 H2) : Ext O H O2 H2 := by
  refine ⟨fun a o e n => y.kept a o (x.kept a o e n) (x.see a o e n).2, fun a h => ?_⟩
  rcases y.hid a h with h | h
  · exact x.hid a h
  · cases e : H a with
    | none => exact .inr rfl
    | some o =>
      refine .inl (Classical.byContradiction fun n => ?_)
      rw [x.kept a o e n] at h
      cases h
theorem Den.ext {Z : Wd} {O O' : Addr → Prop} {H H' : Hp} (x : Ext O H O' H') {v : V} {d : D} (h : Den Z O H v d) : Den Z O' H' v d := h.mono x.see
theorem DenA.ext {Z : Wd} {O O' : Addr → Prop} {H H' : Hp} (x : Ext O H O' H') {v : List V} {d : List D} (h : DenA Z O H v d) : DenA Z O' H' v d := h.mono x.see
theorem Cont.ext {Z : Wd} {O O' : Addr → Prop} {H H' : Hp} (x : Ext O H O' H') {v : HO} {d : D} (h : Cont Z O H v d) : Cont Z O' H' v d := h.mono x.see

end FD

/-! F1: results, readings by functions, operators. -/
namespace FD
open PySem PySem.Spec PyProof.Rows L2

/-- what an expression gives: a datum others may hold, a new one that no one holds, the value of slot i -/
inductive Res where
  | d (d : D) | f (d : D) | s (i : Nat)
/-- an expression's end: a result, an exception -/
inductive Out where
  | ok (r : Res) | ex (c : Str) (fs : List (Str × D))
abbrev Sg (T : Type) := List Sl × T
abbrev EF (T : Type) := Sg T → Option (Out × Sg T)

/-- the frame: the world, the callers' hidden addresses, the heap at the entry, what is wanted of exceptions -/
structure Fx (Z : Wd) where
  O : Addr → Prop
  H : Hp
  W : WX
  ev : Exv

abbrev Fx.Rel {Z : Wd} (C : Fx Z) (ow : Nat → Option Addr) (τ : List Sl) (t : Z.T) (σ : L2.St) (H : Hp) : Prop := FD.Rel Z C.ev C.O C.H ow τ t σ H
abbrev Fx.Hid {Z : Wd} (C : Fx Z) (ow : Nat → Option Addr) : Addr → Prop := FD.Hid C.O ow

def ResOk {Z : Wd} (C : Fx Z) (ow : Nat → Option Addr) (τ : List Sl) (σ : L2.St) (H : Hp) (v : V) : Res → Prop
  | .d d => ow 0 = none ∧ Den Z (C.Hid ow) H v d
  | .f d => ∃ a o, ow 0 = some a ∧ v = .ref a ∧ H a = some o ∧ Cont Z (C.Hid ow) H o d
  | .s i => ow 0 = none ∧ σ[i]? = some (some v)

/-- what is wanted behind an expression -/
def Fin {Z : Wd} (C : Fx Z) (ow : Nat → Option Addr) (σ : L2.St) (H : Hp) (Q : VK) (s' : Sg Z.T) : Out → Prop
  | .ok r => ∀ ow' v H', C.Rel ow' s'.1 s'.2 σ H' → ResOk C ow' s'.1 σ H' v r → Ext (C.Hid ow) H (C.Hid ow') H' → Q v H'
  | .ex c fs => ∀ ow' d H', C.Rel ow' s'.1 s'.2 σ H' → ow' 0 = none → Ext (C.Hid ow) H (C.Hid ow') H' → ExOk Z (C.Hid ow') H' d fs → C.W (.ref (Z.ca c)) d σ H'
/-- the reading of an expression by a function of the data -/
def tF {Z : Wd} (C : Fx Z) (f : EF Z.T) : TE := fun σ H Q => ∃ ow τ t o s', C.Rel ow τ t σ H ∧ ow 0 = none ∧ f (τ, t) = some (o, s') ∧ Fin C ow σ H Q s' o

/-! ### states -/
section
variable {Z : Wd} {C : Fx Z} {ow ow' : Nat → Option Addr} {τ : List Sl} {t : Z.T} {σ : L2.St} {H H' : Hp} {v : V} {r : Res} {d : D}

/-- fewer addresses hidden -/
def drop (ow : Nat → Option Addr) (i : Nat) : Nat → Option Addr := fun j => if j = i then none else ow j
theorem drop_same {ow : Nat → Option Addr} {i : Nat} : drop ow i i = none := if_pos rfl
theorem drop_ne {ow : Nat → Option Addr} {i j : Nat} (h : j ≠ i) : drop ow i j = ow j := if_neg h
theorem drop_some {ow : Nat → Option Addr} {i j : Nat} {a : Addr} (h : drop ow i j = some a) : ow j = some a ∧ j ≠ i := by
  unfold drop at h
  split at h
  · cases h
  · exact ⟨h, by assumption⟩
theorem hid_drop {O₀ : Addr → Prop} {ow : Nat → Option Addr} {i : Nat} {a : Addr} (h : Hid O₀ (drop ow i) a) : Hid O₀ ow a :=
  h.imp id fun ⟨j, e⟩ => ⟨j, (drop_some e).1⟩
theorem ext_drop {O₀ : Addr → Prop} {ow : Nat → Option Addr} {i : Nat} {H : Hp} : Ext (Hid O₀ ow) H (Hid O₀ (drop ow i)) H :=
  ⟨fun _ _ e _ => e, fun _ h => .inl (hid_drop h)⟩

theorem Rel.open_ (R : C.Rel ow τ t σ H) {i : Nat} {a : Addr} (e : ow i = some a) : ¬ C.Hid (drop ow i) a := by
  rintro (h | ⟨j, h⟩)
  · obtain ⟨o, h1, _⟩ := R.hidT a h
    rw [(R.new i a e).1] at h1
    cases h1
  · obtain ⟨h1, h2⟩ := drop_some h
    exact h2 (R.inj j i a h1 e)

/-- slots behind a change of what is hidden -/
theorem SlotOk.ext {Z : Wd} {ev : Exv} {O O' : Addr → Prop} {H H' : Hp} {ow ow' : Nat → Option Addr} {σ : L2.St} {i : Nat} {s : Sl} (x : Ext O H O' H') (k : ∀ a, ow (i + 1) = some a → ow' (i + 1) = some a ∧ H' a = H a) (h : SlotOk Z ev O H ow σ i s) :
    SlotOk Z ev O' H' ow' σ i s := by
  cases s with
  | no => trivial
  | x => exact ⟨h.1, h.2.mono x.see⟩
  | v d =>
    obtain ⟨v, e, h⟩ := h
    exact ⟨v, e, h.ext x⟩
  | o d =>
    obtain ⟨a, o, e1, e2, e3, c⟩ := h
    obtain ⟨k1, k2⟩ := k a e1
    exact ⟨a, o, k1, e2, k2.trans e3, c.ext x⟩

/-- the pending object is let go of: it is a datum like others -/
theorem Rel.release (R : C.Rel ow τ t σ H) : C.Rel (drop ow 0) τ t σ H where
  on := R.on
  hid := R.hid
  hidT := R.hidT
  grow := R.grow
  len := R.len
  slot := fun i s e => (R.slot i s e).ext ext_drop fun a h => ⟨by rw [drop_ne (by omega)]; exact h, rfl⟩
  inj := fun i j a h1 h2 => R.inj i j a (drop_some h1).1 (drop_some h2).1
  new := fun i a h => R.new i a (drop_some h).1

/-- slot i is shared from now on -/
theorem Rel.share {i : Nat} (R : C.Rel ow τ t σ H) (e : τ[i]? = some (.o d)) : C.Rel (drop ow (i + 1)) (τ.set i (.v d)) t σ H where
  on := R.on
  hid := R.hid
  hidT := R.hidT
  grow := R.grow
  len := by rw [List.length_set]; exact R.len
  slot := fun j s h => by
    by_cases q : j = i
    · subst q
      have hl : j < τ.length := (List.getElem?_eq_some_iff.mp e).1
      rw [List.getElem?_set_self hl] at h
      cases h
      obtain ⟨a, o, e1, e2, e3, c⟩ := R.slot j _ e
      exact ⟨.ref a, e2, .ref e3 (R.open_ e1) (c.ext ext_drop)⟩
    · rw [List.getElem?_set_ne (Ne.symm q)] at h
      exact (R.slot j s h).ext ext_drop fun a h => ⟨by rw [drop_ne (by omega)]; exact h, rfl⟩
  inj := fun i j a h1 h2 => R.inj i j a (drop_some h1).1 (drop_some h2).1
  new := fun i a h => R.new i a (drop_some h).1

/-- the heap grows -/
def Grow (H H' : Hp) : Prop := ∀ a o, H a = some o → H' a = some o
theorem Grow.refl {H : Hp} : Grow H H := fun _ _ h => h
theorem Grow.new {H : Hp} {p : Addr} {o : HO} (h : H p = none) : Grow H (upd H p o) := fun a u e => by
  rw [upd_ne (ne_of_none e h)]
  exact e
theorem Grow.trans {H H1 H2 : Hp} (a : Grow H H1) (b : Grow H1 H2) : Grow H H2 := fun x o h => b x o (a x o h)
theorem Grow.ext {O : Addr → Prop} (g : Grow H H') : Ext O H O H' := ⟨fun a o e _ => g a o e, fun _ h => .inl h⟩

theorem Rel.grown (R : C.Rel ow τ t σ H) (g : Grow H H') : C.Rel ow τ t σ H' where
  on := Z.loc t H H' R.on fun a o _ e => g a o e
  hid := R.hid
  hidT := R.hidT
  grow := fun a o e n => g a o (R.grow a o e n)
  len := R.len
  slot := fun i s e => (R.slot i s e).ext g.ext fun a h => ⟨h, by
    obtain ⟨_, o, e, _⟩ := R.new _ a h
    rw [e]
    exact g a o e⟩
  inj := R.inj
  new := fun i a h => by
    obtain ⟨h1, o, e, n⟩ := R.new i a h
    exact ⟨h1, o, g a o e, n⟩

theorem Rel.track (R : C.Rel ow τ t σ H) {a : Addr} (h : C.Hid ow a) : ∃ o, H a = some o ∧ ∀ xs, o ≠ .tup xs := by
  rcases h with h | ⟨i, h⟩
  · by_cases q : Z.hid a
    · exact Z.trk t H a R.on q
    · obtain ⟨o, e, n⟩ := R.hidT a h
      exact ⟨o, R.grow a o e q, n⟩
  · exact (R.new i a h).2
theorem Rel.nohid (R : C.Rel ow τ t σ H) {p : Addr} (h : H p = none) : ¬ C.Hid ow p := fun q => by
  obtain ⟨o, e, _⟩ := R.track q
  rw [h] at e
  cases e

/-- what an operation on data hands back: (d, true) a new object -/
def Gets (Z : Wd) (O : Addr → Prop) (H : Hp) (v : V) (H' : Hp) (z : D × Bool) : Prop :=
  match z.2 with
  | false => Grow H H' ∧ Den Z O H' v z.1
  | true => ∃ p o, v = .ref p ∧ H p = none ∧ H' = upd H p o ∧ Cont Z O H o z.1 ∧ ∀ xs, o ≠ .tup xs
def resOf (z : D × Bool) : Res := if z.2 then .f z.1 else .d z.1
def put (ow : Nat → Option Addr) (i : Nat) (p : Addr) : Nat → Option Addr := fun j => if j = i then some p else ow j
theorem put_same {ow : Nat → Option Addr} {i : Nat} {p : Addr} : put ow i p i = some p := if_pos rfl
theorem put_ne {ow : Nat → Option Addr} {i j : Nat} {p : Addr} (h : j ≠ i) : put ow i p j = ow j := if_neg h
theorem put_some {ow : Nat → Option Addr} {i j : Nat} {p a : Addr} (h : put ow i p j = some a) : (j = i ∧ a = p) ∨ (j ≠ i ∧ ow j = some a) := by
  unfold put at h
  split at h
  · cases h
    exact .inl ⟨by assumption, rfl⟩
  · exact .inr ⟨by assumption, h⟩
theorem hid_put {O₀ : Addr → Prop} {ow : Nat → Option Addr} {i : Nat} {a p : Addr} (h : Hid O₀ (put ow i p) a) : Hid O₀ ow a ∨ a = p := by
  rcases h with h | ⟨j, e⟩
  · exact .inl (.inl h)
  · rcases put_some e with ⟨_, h⟩ | ⟨_, h⟩
    · exact .inr h
    · exact .inl (.inr ⟨j, h⟩)
theorem ext_put {O₀ : Addr → Prop} {ow : Nat → Option Addr} {i : Nat} {H : Hp} {p : Addr} {o : HO} (h : H p = none) : Ext (Hid O₀ ow) H (Hid O₀ (put ow i p)) (upd H p o) :=
  ⟨fun a u e _ => Grow.new h a u e, fun a q => (hid_put q).imp id fun z => by rw [z]; exact h⟩
/-- a new object is laid and pending -/
theorem Rel.pend {p : Addr} {o : HO} (R : C.Rel ow τ t σ H) (h0 : ow 0 = none) (h : H p = none) (hn : ∀ xs, o ≠ .tup xs) : C.Rel (put ow 0 p) τ t σ (upd H p o) where
  on := Z.loc t H _ R.on fun a u _ e => Grow.new h a u e
  hid := R.hid
  hidT := R.hidT
  grow := fun a u e n => Grow.new h a u (R.grow a u e n)
  len := R.len
  slot := fun i s e => (R.slot i s e).ext (ext_put h) fun a q => ⟨by rw [put_ne (by omega)]; exact q, by
    obtain ⟨_, u, e, _⟩ := R.new _ a q
    rw [e]
    exact Grow.new h a u e⟩
  inj := fun i j a h1 h2 => by
    have old : ∀ i a, ow i = some a → a ≠ p := fun i a q z => by
      obtain ⟨_, u, e, _⟩ := R.new i a q
      rw [z, h] at e
      cases e
    rcases put_some h1 with ⟨e1, e2⟩ | ⟨_, e2⟩
    · rcases put_some h2 with ⟨e3, _⟩ | ⟨_, e4⟩
      · rw [e1, e3]
      · exact absurd e2 (old j a e4)
    · rcases put_some h2 with ⟨_, e3⟩ | ⟨_, e4⟩
      · exact absurd e3 (old i a e2)
      · exact R.inj i j a e2 e4
  new := fun i a q => by
    rcases put_some q with ⟨_, e⟩ | ⟨_, e⟩
    · subst e
      refine ⟨?_, o, upd_same, hn⟩
      cases z : C.H a with
      | none => rfl
      | some u =>
        by_cases g : Z.hid a
        · obtain ⟨u', e', _⟩ := Z.trk t H a R.on g
          rw [h] at e'
          cases e'
        · have := R.grow a u z g
          rw [h] at this
          cases this
    · obtain ⟨h1, u, e2, n⟩ := R.new i a e
      exact ⟨h1, u, Grow.new h a u e2, n⟩
theorem Rel.gets {H' : Hp} {v : V} {z : D × Bool} (R : C.Rel ow τ t σ H) (h0 : ow 0 = none) (g : Gets Z (C.Hid ow) H v H' z) :
    ∃ ow', C.Rel ow' τ t σ H' ∧ ResOk C ow' τ σ H' v (resOf z) ∧ Ext (C.Hid ow) H (C.Hid ow') H' := by
  obtain ⟨d, fr⟩ := z
  cases fr with
  | false => exact ⟨ow, R.grown g.1, ⟨h0, g.2⟩, g.1.ext⟩
  | true =>
    obtain ⟨p, o, rfl, h, rfl, c, n⟩ := g
    exact ⟨put ow 0 p, R.pend h0 h n, ⟨p, o, put_same, rfl, upd_same, c.ext (ext_put h)⟩, ext_put h⟩

/-! ### results used -/
/-- what a result holds, without sharing it -/
def peek (τ : List Sl) : Res → Option D
  | .d d => some d
  | .f d => some d
  | .s i => match τ[i]? with
    | some (.v d) => some d
    | some (.o d) => some d
    | _ => none
/-- a result as a datum for others -/
def give (τ : List Sl) : Res → Option (D × List Sl)
  | .d d => some (d, τ)
  | .f d => some (d, τ)
  | .s i => match τ[i]? with
    | some (.v d) => some (d, τ)
    | some (.o d) => some (d, τ.set i (.v d))
    | _ => none
/-- a result that waits while another expression runs -/
def hold : Res → Res
  | .f d => .d d
  | r => r
/-- a value shows a datum: it may be one's own -/
inductive Shows (Z : Wd) (O : Addr → Prop) (H : Hp) : V → D → Prop
  | den {v : V} {d : D} : Den Z O H v d → Shows Z O H v d
  | own {a : Addr} {o : HO} {d : D} : H a = some o → (∀ xs, o ≠ .tup xs) → Cont Z O H o d → Shows Z O H (.ref a) d
theorem ResOk.peek {d : D} (R : C.Rel ow τ t σ H) (h : ResOk C ow τ σ H v r) (e : FD.peek τ r = some d) : Shows Z (C.Hid ow) H v d := by
  cases r with
  | d _ =>
    cases e
    exact .den h.2
  | f _ =>
    cases e
    obtain ⟨a, o, h1, rfl, h3, c⟩ := h
    obtain ⟨_, u, e1, n⟩ := R.new _ a h1
    rw [h3] at e1
    cases e1
    exact .own h3 n c
  | s i =>
    obtain ⟨_, h2⟩ := h
    simp only [FD.peek] at e
    cases h3 : τ[i]? with
    | none => rw [h3] at e; cases e
    | some s =>
      have q := R.slot i s h3
      rw [h3] at e
      cases s with
      | no => cases e
      | x => cases e
      | v _ =>
        cases e
        obtain ⟨v', e1, q⟩ := q
        rw [h2] at e1
        cases e1
        exact .den q
      | o _ =>
        cases e
        obtain ⟨a, o, e1, e2, e3, c⟩ := q
        rw [h2] at e2
        cases e2
        obtain ⟨_, u, e4, n⟩ := R.new _ a e1
        rw [e3] at e4
        cases e4
        exact .own e3 n c
theorem ResOk.hold (R : C.Rel ow τ t σ H) (h : ResOk C ow τ σ H v r) : ∃ ow', C.Rel ow' τ t σ H ∧ ow' 0 = none ∧ ResOk C ow' τ σ H v (FD.hold r) ∧ Ext (C.Hid ow) H (C.Hid ow') H := by
  cases r with
  | d _ => exact ⟨ow, R, h.1, h, .refl⟩
  | s _ => exact ⟨ow, R, h.1, h, .refl⟩
  | f _ =>
    obtain ⟨a, o, h1, rfl, h3, c⟩ := h
    exact ⟨drop ow 0, R.release, drop_same, ⟨drop_same, .ref h3 (R.open_ h1) (c.ext ext_drop)⟩, ext_drop⟩
/-- what was held, later -/
theorem ResOk.later {ow' : Nat → Option Addr} {τ' : List Sl} {t' : Z.T} {H' : Hp} (R' : C.Rel ow' τ' t' σ H') (h : ResOk C ow τ σ H v (FD.hold r)) (x : Ext (C.Hid ow) H (C.Hid ow') H') {d : D} (e : FD.peek τ' (FD.hold r) = some d) :
    Shows Z (C.Hid ow') H' v d := by
  cases r with
  | d _ =>
    cases e
    exact .den (h.2.ext x)
  | f _ =>
    cases e
    exact .den (h.2.ext x)
  | s i =>
    obtain ⟨_, h2⟩ := h
    simp only [FD.hold, FD.peek] at e
    cases h3 : τ'[i]? with
    | none => rw [h3] at e; cases e
    | some s =>
      have q := R'.slot i s h3
      rw [h3] at e
      cases s with
      | no => cases e
      | x => cases e
      | v _ =>
        cases e
        obtain ⟨v', e1, q⟩ := q
        rw [h2] at e1
        cases e1
        exact .den q
      | o _ =>
        cases e
        obtain ⟨a, o, e1, e2, e3, c⟩ := q
        rw [h2] at e2
        cases e2
        obtain ⟨_, u, e4, n⟩ := R'.new _ a e1
        rw [e3] at e4
        cases e4
        exact .own e3 n c
theorem ResOk.give {d : D} {τ' : List Sl} (R : C.Rel ow τ t σ H) (h : ResOk C ow τ σ H v r) (e : FD.give τ r = some (d, τ')) :
    ∃ ow', C.Rel ow' τ' t σ H ∧ ow' 0 = none ∧ Den Z (C.Hid ow') H v d ∧ Ext (C.Hid ow) H (C.Hid ow') H := by
  cases r with
  | d _ =>
    cases e
    exact ⟨ow, R, h.1, h.2, .refl⟩
  | f _ =>
    cases e
    obtain ⟨a, o, h1, rfl, h3, c⟩ := h
    exact ⟨drop ow 0, R.release, drop_same, .ref h3 (R.open_ h1) (c.ext ext_drop), ext_drop⟩
  | s i =>
    obtain ⟨h1, h2⟩ := h
    simp only [FD.give] at e
    cases h3 : τ[i]? with
    | none => rw [h3] at e; cases e
    | some s =>
      have q := R.slot i s h3
      rw [h3] at e
      cases s with
      | no => cases e
      | x => cases e
      | v _ =>
        cases e
        obtain ⟨v', e1, q⟩ := q
        rw [h2] at e1
        cases e1
        exact ⟨ow, R, h1, q, .refl⟩
      | o _ =>
        cases e
        obtain ⟨a, o, e1, e2, e3, c⟩ := q
        rw [h2] at e2
        cases e2
        exact ⟨drop ow (i + 1), R.share h3, by rw [drop_ne (by omega)]; exact h1, .ref e3 (R.open_ e1) (c.ext ext_drop), ext_drop⟩
end
end FD

/-! F2: names, constants, operators, comparisons, tests. -/
namespace FD
open PySem PySem.Spec PyProof.Rows L2

/-- what is left to run, from where one stands -/
def Kn {Z : Wd} (C : Fx Z) (f : EF Z.T) (ow : Nat → Option Addr) (τ : List Sl) (t : Z.T) (σ : L2.St) (H : Hp) (Q : VK) : Prop := ∃ o s', f (τ, t) = some (o, s') ∧ Fin C ow σ H Q s' o

def bindF {T : Type} (f : EF T) (k : Res → EF T) : EF T := fun s => match f s with
  | none => none
  | some (.ex c fs, s1) => some (.ex c fs, s1)
  | some (.ok r, s1) => k r s1
/-- an operation on what the results hold -/
def doneF {T : Type} (g : List Sl → Option (D × Bool)) : EF T := fun s => match g s.1 with
  | none => none
  | some z => some (.ok (resOf z), s)

section
variable {Z : Wd} {C : Fx Z} {ow ow' : Nat → Option Addr} {τ : List Sl} {t : Z.T} {σ : L2.St} {H H' : Hp} {Q : VK} {f : EF Z.T} {k : Res → EF Z.T}
theorem Fin.from (x : Ext (C.Hid ow) H (C.Hid ow') H') {s' : Sg Z.T} {o : Out} (h : Fin C ow σ H Q s' o) : Fin C ow' σ H' Q s' o := by
  cases o with
  | ok r => exact fun ow2 v H2 R2 r2 x2 => h ow2 v H2 R2 r2 (x.trans x2)
  | ex c fs => exact fun ow2 d H2 R2 z x2 e => h ow2 d H2 R2 z (x.trans x2) e
theorem Kn.from (x : Ext (C.Hid ow) H (C.Hid ow') H') (h : Kn C f ow τ t σ H Q) : Kn C f ow' τ t σ H' Q := by
  obtain ⟨o, s', e, h⟩ := h
  exact ⟨o, s', e, h.from x⟩
theorem tF.at_ (h : tF C f σ H Q) : ∃ ow τ t, C.Rel ow τ t σ H ∧ ow 0 = none ∧ Kn C f ow τ t σ H Q := by
  obtain ⟨ow, τ, t, o, s', R, h0, e, h⟩ := h
  exact ⟨ow, τ, t, R, h0, o, s', e, h⟩
theorem tF_mono {Q' : VK} (h : tF C f σ H Q) (k : ∀ v H, Q v H → Q' v H) : tF C f σ H Q' := by
  obtain ⟨ow, τ, t, o, s', R, h0, e, h⟩ := h
  refine ⟨ow, τ, t, o, s', R, h0, e, ?_⟩
  cases o with
  | ok r => exact fun ow' v H' R' r' x => k v H' (h ow' v H' R' r' x)
  | ex c fs => exact h
theorem Kn.tF (h : Kn C f ow τ t σ H Q) (R : C.Rel ow τ t σ H) (h0 : ow 0 = none) : FD.tF C f σ H Q := by
  obtain ⟨o, s', e, h⟩ := h
  exact ⟨ow, τ, t, o, s', R, h0, e, h⟩
/-- behind the first of two -/
def Behind {Z : Wd} (C : Fx Z) (k : Res → EF Z.T) (ow : Nat → Option Addr) (σ : L2.St) (H : Hp) (Q : VK) (v : V) (H1 : Hp) : Prop :=
  ∃ ow1 τ1 t1 r, C.Rel ow1 τ1 t1 σ H1 ∧ ResOk C ow1 τ1 σ H1 v r ∧ Kn C (k r) ow1 τ1 t1 σ H1 Q ∧ Ext (C.Hid ow) H (C.Hid ow1) H1
theorem Kn.bind (h : Kn C (bindF f k) ow τ t σ H Q) (R : C.Rel ow τ t σ H) (h0 : ow 0 = none) : FD.tF C f σ H (Behind C k ow σ H Q) := by
  obtain ⟨o, s', e, h⟩ := h
  unfold bindF at e
  cases q : f (τ, t) with
  | none => rw [q] at e; cases e
  | some z =>
    obtain ⟨o1, s1⟩ := z
    rw [q] at e
    cases o1 with
    | ex c fs =>
      cases e
      exact ⟨ow, τ, t, _, _, R, h0, q, h⟩
    | ok r => exact ⟨ow, τ, t, _, _, R, h0, q, fun ow1 v H1 R1 r1 x1 => ⟨ow1, s1.1, s1.2, r, R1, r1, ⟨o, s', e, h.from x1⟩, x1⟩⟩
theorem Kn.done {g : List Sl → Option (D × Bool)} (h : Kn C (doneF g) ow τ t σ H Q) (R : C.Rel ow τ t σ H) (h0 : ow 0 = none) : ∃ z, g τ = some z ∧ ∀ v H', Gets Z (C.Hid ow) H v H' z → Q v H' := by
  obtain ⟨o, s', e, h⟩ := h
  unfold doneF at e
  cases q : g τ with
  | none => simp only [q] at e; cases e
  | some z =>
    simp only [q] at e
    cases e
    refine ⟨z, rfl, fun v H' g => ?_⟩
    obtain ⟨ow', R', r', x⟩ := R.gets h0 g
    exact h ow' v H' R' r' x
end

/-- an operation of two data -/
def rD2 (Z : Wd) (op : D → D → Option (D × Bool)) : R2 := fun x y H Q => ∃ O dx dy z, (∀ p, H p = none → ¬ O p) ∧ Shows Z O H x dx ∧ Shows Z O H y dy ∧ op dx dy = some z ∧ ∀ v H', Gets Z O H v H' z → Q v H'
def OpD (Z : Wd) (X : Cx) (f : Value → Value → Sem Value) (op : D → D → Option (D × Bool)) : Prop := OpR X f (rD2 Z op)
def binF {T : Type} (op : D → D → Option (D × Bool)) (fa fb : EF T) : EF T := bindF fa fun ra => bindF fb fun rb => doneF fun τ => match peek τ (hold ra), peek τ (hold rb) with
  | some x, some y => op x y
  | _, _ => none

section
variable {Z : Wd} {C : Fx Z} {X : Cx} {a b e : Expr} {fa fb fc : EF Z.T} {pos : Pos}
theorem tOp_of {op : D → D → Option (D × Bool)} {σ : L2.St} {H : Hp} {Q : VK} (h : tF C (binF op fa fb) σ H Q) : tOp (rD2 Z op) (tF C fa) (tF C fb) σ H Q := by
  obtain ⟨ow, τ, t, R, h0, h⟩ := h.at_
  refine tF_mono (h.bind R h0) fun x H1 ⟨ow1, τ1, t1, ra, R1, r1, h1, _⟩ => ?_
  obtain ⟨ow1', R1', z1, r1', x1⟩ := r1.hold R1
  refine tF_mono ((h1.from x1).bind R1' z1) fun y H2 ⟨ow2, τ2, t2, rb, R2, r2, h2, x2⟩ => ?_
  obtain ⟨ow3, R3, z3, r3, x3⟩ := r2.hold R2
  obtain ⟨z, e, q⟩ := (h2.from x3).done R3 z3
  cases pa : peek τ2 (hold ra) with
  | none => simp only [pa] at e; cases e
  | some dx =>
    cases pb : peek τ2 (hold rb) with
    | none => simp only [pa, pb] at e; cases e
    | some dy =>
      simp only [pa, pb] at e
      exact ⟨_, dx, dy, z, fun p hp => R3.nohid hp, r1'.later R3 (x2.trans x3) pa, r3.peek R3 pb, e, q⟩
theorem ev_bin {op : Operator} {g : D → D → Option (D × Bool)} (ho : OpD Z X (binaryOp op) g) (ha : PE X a (tF C fa)) (hb : PE X b (tF C fb)) : PE X (.BinOp a op b pos) (tF C (binF g fa fb)) :=
  ⟨fun pins s σ H Q I h => (pe_op ho ha hb).run pins s σ H Q I (tOp_of h)⟩
theorem ev_cmp {op : CmpOp} {g : D → D → Option (D × Bool)} (ho : OpD Z X (compareOp op) g) (ha : PE X a (tF C fa)) (hb : PE X b (tF C fb)) (hm : behindInMarks op b = false) : PE X (.Compare a [op] [b] pos) (tF C (binF g fa fb)) :=
  ⟨fun pins s σ H Q I h => (pe_cmpR ho ha hb hm).run pins s σ H Q I (tOp_of h)⟩

/-! ### names, constants -/
def varF {T : Type} (i : Nat) : EF T := fun s => match s.1[i]? with
  | some (.v _) => some (.ok (.s i), s)
  | some (.o _) => some (.ok (.s i), s)
  | _ => none
def conF {T : Type} (d : D) : EF T := fun s => some (.ok (.d d), s)
theorem ev_var {i : Nat} (he : PE X e (tVar i)) : PE X e (tF C (varF i)) := ⟨fun pins s σ H Q I h => he.run pins s σ H Q I (by
  obtain ⟨ow, τ, t, o, s', R, h0, e, h⟩ := h
  unfold varF at e
  cases q : τ[i]? with
  | none => simp only [q] at e; cases e
  | some sl =>
    have ok := R.slot i sl q
    cases sl with
    | no => simp only [q] at e; cases e
    | x => simp only [q] at e; cases e
    | v d =>
      simp only [q] at e
      cases e
      obtain ⟨v, e1, _⟩ := ok
      exact ⟨v, e1, h ow v H R ⟨h0, e1⟩ .refl⟩
    | o d =>
      simp only [q] at e
      cases e
      obtain ⟨a, u, _, e1, _⟩ := ok
      exact ⟨.ref a, e1, h ow _ H R ⟨h0, e1⟩ .refl⟩)⟩
/-- a constant: flat data alone -/
theorem ev_con {v : V} {d : D} (he : PE X e (tC v)) (hd : ∀ O H, Den Z O H v d) : PE X e (tF C (conF d)) := ⟨fun pins s σ H Q I h => he.run pins s σ H Q I (by
  obtain ⟨ow, τ, t, o, s', R, h0, e, h⟩ := h
  cases e
  exact h ow v H R ⟨h0, hd _ _⟩ .refl)⟩
theorem ev_int {i : Int} {j : Nat} : PE X (.Constant (.int i) j pos) (tF C (conF (.int i))) := ev_con pe_int fun _ _ => .int i
theorem ev_bl {i : Bool} {j : Nat} : PE X (.Constant (.bool i) j pos) (tF C (conF (.bl i))) := ev_con pe_bl fun _ _ => .bl i
theorem ev_non {j : Nat} : PE X (.Constant .none j pos) (tF C (conF .non)) := ev_con pe_non fun _ _ => .non
theorem ev_str {i : Str} {j : Nat} : PE X (.Constant (.str i) j pos) (tF C (conF (.str i))) := ev_con pe_str fun _ _ => .str i

/-! ### one operand -/
def rD1 (Z : Wd) (op : D → Option (D × Bool)) : V → Hp → VK → Prop := fun x H Q => ∃ O dx z, (∀ p, H p = none → ¬ O p) ∧ Shows Z O H x dx ∧ op dx = some z ∧ ∀ v H', Gets Z O H v H' z → Q v H'
def UnD (Z : Wd) (X : Cx) (f : Value → Sem Value) (op : D → Option (D × Bool)) : Prop := UnR X f (rD1 Z op)
def unF {T : Type} (op : D → Option (D × Bool)) (fa : EF T) : EF T := bindF fa fun ra => doneF fun τ => match peek τ (hold ra) with
  | some x => op x
  | none => none
theorem tUn_of {op : D → Option (D × Bool)} {σ : L2.St} {H : Hp} {Q : VK} (h : tF C (unF op fa) σ H Q) : tUn (rD1 Z op) (tF C fa) σ H Q := by
  obtain ⟨ow, τ, t, R, h0, h⟩ := h.at_
  refine tF_mono (h.bind R h0) fun x H1 ⟨ow1, τ1, t1, ra, R1, r1, h1, _⟩ => ?_
  obtain ⟨ow1', R1', z1, r1', x1⟩ := r1.hold R1
  obtain ⟨z, e, q⟩ := (h1.from x1).done R1' z1
  cases pa : peek τ1 (hold ra) with
  | none => simp only [pa] at e; cases e
  | some dx =>
    simp only [pa] at e
    exact ⟨_, dx, z, fun p hp => R1'.nohid hp, r1'.peek R1' pa, e, q⟩
theorem ev_un {op : UnaryOp} {g : D → Option (D × Bool)} (ho : UnD Z X (unaryOp op) g) (ha : PE X a (tF C fa)) : PE X (.UnaryOp op a pos) (tF C (unF g fa)) :=
  ⟨fun pins s σ H Q I h => (pe_un ho ha).run pins s σ H Q I (tUn_of h)⟩
end
end FD

set_option maxHeartbeats 1000000
/-! F2b: a tuple, once or not at all. -/
namespace FD
open PySem PySem.Spec PyProof.Rows L2
theorem mulT1 (l : Addr) (items : Array Value) (n : Nat) (dd : Option Addr) (sl : Array (Option Value)) (x : Int) (u : Tok) (c0 : (decide (x < -(2 ^ 63)) || decide (x ≥ 2 ^ 63)) = false) (c1 : (items.isEmpty || x == 1) = true) :
    Meets (Builtin.«tuple.__mul__» ⟨[.ref l, .int x u], []⟩) (fun _ R s => s.heap.get? l = some { cls := .type "tuple", dict := dd, data := .seq items n, slots := sl } ∧ R (.ok (.ret (.ref l))) s) :=
  .of_wp fun prog w A R s h => by
    obtain ⟨hp, g, d, tk, os⟩ := s
    obtain ⟨hl, h⟩ := h
    have f1 := AutoSeq1.idx_int
    wp_walk using wpAny_loadPart' hl
    refine wpAny_ite_false (decide_eq_false (by rw [c0]; exact Bool.false_ne_true)) ?_
    wp_walk using wpAny_loadPart' hl
    exact ⟨_, rfl, h⟩
theorem mulT0 (l : Addr) (items : Array Value) (n : Nat) (dd : Option Addr) (sl : Array (Option Value)) (x : Int) (u : Tok) (c0 : (decide (x < -(2 ^ 63)) || decide (x ≥ 2 ^ 63)) = false) (c1 : (items.isEmpty || x == 1) = false) (c2 : (decide (x ≤ 0) || items.isEmpty) = true) :
    Meets (Builtin.«tuple.__mul__» ⟨[.ref l, .int x u], []⟩) (fun _ R s => s.heap.get? l = some { cls := .type "tuple", dict := dd, data := .seq items n, slots := sl } ∧
      R (.ok (.ret (Value.ref s.heap.objs.size))) { s with heap := s.heap.push { cls := Value.type "tuple", data := Data.seq #[] }, toks := s.toks }) :=
  .of_wp fun prog w A R s h => by
    obtain ⟨hp, g, d, tk, os⟩ := s
    obtain ⟨hl, h⟩ := h
    have f1 := AutoSeq1.idx_int
    wp_walk using wpAny_loadPart' hl
    refine wpAny_ite_false (decide_eq_false (by rw [c0]; exact Bool.false_ne_true)) ?_
    wp_walk using wpAny_loadPart' hl
    repeat (first
      | (refine wpAny_ite_false (decide_eq_false (by rw [c1]; exact Bool.false_ne_true)) ?_; wp_walk using wpAny_loadPart' hl)
      | (refine wpAny_ite_true (decide_eq_true (by rw [c2])) ?_; wp_walk using wpAny_loadPart' hl))
    exact ⟨_, rfl, h⟩
def rRep1 (K : PySem.W.Frag) : R2 := fun x y H Q => ∃ l xs, x = .ref l ∧ y = .int 1 ∧ SqT K H l xs ∧ Q (.ref l) H
def rRep0 (K : PySem.W.Frag) : R2 := fun x y H Q => ∃ l k xs, x = .ref l ∧ y = .int k ∧ SqT K H l xs ∧ xs ≠ [] ∧ -1000 ≤ k ∧ k ≤ 0 ∧ ∀ p, H p = none → Q (.ref p) (upd H p (.tup []))
section
variable {X : Cx}
theorem op_rep1 : OpR X (binaryOp .Mult) (rRep1 X.K) := by
  intro pins s σ H x y v u Q I rx ry h
  obtain ⟨l, xs, rfl, rfl, hT, q⟩ := h
  cases rx
  obtain ⟨t, rfl⟩ := ry
  obtain ⟨its, r, ⟨⟨cls, dd, data, sl⟩, ho, hc, n, hd⟩, _⟩ := I.tuple hT
  simp only at hc hd
  subst hc hd
  exact wpAny_binaryOp_repeat_ref (T := "tuple") (U := "int") (by decide) ⟨_, ho, rfl⟩ (fun s' => typeIs_int s' 1 t) noFill_tuple_mul F.fills_int_mul F.slot_int_rmul repeat_tuple F.slot_int_index.lookup
    (call_meets F.slot_int_rmul (typeIs_int s 1 t) F.entry_int_rmul (F.args_int_rmul_2 _ _) (int_rmul_tuple 1 t l its.toArray n dd sl)
      ⟨ho, rfl, ⟨_, ho, rfl⟩, call_meets F.slot_tuple_mul ⟨_, ho, rfl⟩ F.entry_tuple_mul (F.args_tuple_mul_2 _ _) (mulT1 l its.toArray n dd sl 1 t (by decide) (by simp)) ⟨ho, .ref l, H, I, rfl, q⟩⟩)
theorem op_rep0 : OpR X (binaryOp .Mult) (rRep0 X.K) := by
  intro pins s σ H x y v u Q I rx ry h
  obtain ⟨l, k, xs, rfl, rfl, hT, hne, h1, h2, q⟩ := h
  cases rx
  obtain ⟨t, rfl⟩ := ry
  obtain ⟨its, r, ⟨⟨cls, dd, data, sl⟩, ho, hc, n, hd⟩, _⟩ := I.tuple hT
  simp only at hc hd
  subst hc hd
  have hi : its.toArray.isEmpty = false := by
    cases its with
    | nil => exact absurd (List.eq_nil_of_length_eq_zero (r.length.trans rfl)) hne
    | cons a b => rfl
  have c0 : (decide (k < -(2 ^ 63)) || decide (k ≥ 2 ^ 63)) = false := by
    rw [decide_eq_false (by omega), decide_eq_false (by omega)] <;> rfl
  have c1 : (its.toArray.isEmpty || k == 1) = false := by
    rw [hi, Bool.false_or]
    exact beq_eq_false_iff_ne.mpr (by omega)
  have c2 : (decide (k ≤ 0) || its.toArray.isEmpty) = true := by
    rw [hi, Bool.or_false]
    exact decide_eq_true h2
  refine wpAny_binaryOp_repeat_ref (T := "tuple") (U := "int") (by decide) ⟨_, ho, rfl⟩ (fun s' => typeIs_int s' k t) noFill_tuple_mul F.fills_int_mul F.slot_int_rmul repeat_tuple F.slot_int_index.lookup
    (call_meets F.slot_int_rmul (typeIs_int s k t) F.entry_int_rmul (F.args_int_rmul_2 _ _) (int_rmul_tuple k t l its.toArray n dd sl)
      ⟨ho, rfl, ⟨_, ho, rfl⟩, call_meets F.slot_tuple_mul ⟨_, ho, rfl⟩ F.entry_tuple_mul (F.args_tuple_mul_2 _ _) (mulT0 l its.toArray n dd sl k t c0 c1 c2) ⟨ho, ?_⟩⟩)
  refine ⟨.ref s.heap.objs.size, _, I.laid (t' := s.toks) (o := .tup []) (fun b ob q => Heap.get?_push_of_some _ q) (Nat.le_refl _) ?_, rfl, q _ (I.hok.fresh (Nat.le_refl _))⟩
  exact ⟨Nat.zero_le _, [], .nil, IsTup.new _ _⟩
end
end FD

/-! F3: the operators on data. -/
namespace FD
open PySem PySem.Spec PyProof.Rows L2

section
variable {Z : Wd} {O : Addr → Prop} {H : Hp} {v : V}
theorem Shows.int {i : Int} (h : Shows Z O H v (.int i)) : v = .int i := by
  cases h with
  | den h => cases h with
    | int => rfl
    | ref e n c => cases c
  | own e n c => cases c
theorem Shows.bl {i : Bool} (h : Shows Z O H v (.bl i)) : v = .bl i := by
  cases h with
  | den h => cases h with
    | bl => rfl
    | ref e n c => cases c
  | own e n c => cases c
theorem Shows.str {i : Str} (h : Shows Z O H v (.str i)) : v = .str i := by
  cases h with
  | den h => cases h with
    | str => rfl
    | ref e n c => cases c
  | own e n c => cases c
theorem Shows.non (h : Shows Z O H v .non) : v = .non := by
  cases h with
  | den h => cases h with
    | non => rfl
    | ref e n c => cases c
  | own e n c => cases c
theorem Shows.ty {n : String} (h : Shows Z O H v (.ty n)) : v = .ty n := by
  cases h with
  | den h => cases h with
    | ty => rfl
    | ref e n c => cases c
  | own e n c => cases c
theorem Shows.lst {ds : List D} (h : Shows Z O H v (.lst ds)) : ∃ a xs, v = .ref a ∧ H a = some (.lst xs) ∧ DenA Z O H xs ds := by
  cases h with
  | den h => cases h with
    | ref e n c => cases c with
      | lst c => exact ⟨_, _, rfl, e, c⟩
  | own e n c => cases c with
    | lst c => exact ⟨_, _, rfl, e, c⟩
theorem Shows.tup {ds : List D} (h : Shows Z O H v (.tup ds)) : ∃ a xs, v = .ref a ∧ H a = some (.tup xs) ∧ DenA Z O H xs ds ∧ ¬ O a := by
  cases h with
  | den h => cases h with
    | ref e n c => cases c with
      | tup c => exact ⟨_, _, rfl, e, c, n⟩
  | own e n c => cases c with
    | tup c => exact absurd rfl (n _)
theorem Shows.obj {k : Str} {fs : List (Str × D)} (h : Shows Z O H v (.obj k fs)) : ∃ a dx xs, v = .ref a ∧ H a = some (.ins (Z.ca k) dx xs) ∧ DenF Z O H xs fs := by
  cases h with
  | den h => cases h with
    | ref e n c => cases c with
      | obj c => exact ⟨_, _, _, rfl, e, c⟩
  | own e n c => cases c with
    | obj c => exact ⟨_, _, _, rfl, e, c⟩
theorem Shows.dct {fs : List (Key × D)} (h : Shows Z O H v (.dct fs)) : ∃ a xs, v = .ref a ∧ H a = some (.dK xs) ∧ DenK Z O H xs fs := by
  cases h with
  | den h => cases h with
    | ref e n c => cases c with
      | dct c => exact ⟨_, _, rfl, e, c⟩
  | own e n c => cases c with
    | dct c => exact ⟨_, _, rfl, e, c⟩
theorem DenA.ints : ∀ {vs : List V} {ns : List Int}, DenA Z O H vs (ns.map D.int) → vs = ns.map V.int
  | _, [], .nil => rfl
  | _, n :: r, .cons h k => by
    rw [(Shows.den h).int, DenA.ints k]
    rfl
/-- new objects -/
theorem Gets.lst {p : Addr} {xs : List V} {ds : List D} (hp : H p = none) (h : DenA Z O H xs ds) : Gets Z O H (.ref p) (upd H p (.lst xs)) (.lst ds, true) :=
  ⟨p, _, rfl, hp, rfl, .lst h, fun _ z => by cases z⟩
theorem Gets.tup {p : Addr} {xs : List V} {ds : List D} (hO : ∀ p, H p = none → ¬ O p) (hp : H p = none) (h : DenA Z O H xs ds) : Gets Z O H (.ref p) (upd H p (.tup xs)) (.tup ds, false) :=
  ⟨Grow.new hp, .ref upd_same (hO p hp) (.tup (h.mono fun a o e n => ⟨Grow.new hp a o e, n⟩))⟩
theorem Gets.same {d : D} (h : Den Z O H v d) : Gets Z O H v H (d, false) := ⟨Grow.refl, h⟩
end

/-! ### equality -/
mutual
def okD : Nat → D → Bool
  | _, .non | _, .bl _ | _, .int _ => true
  | _, .str x => PyData.canLay0 (.str x)
  | n + 1, .tup ds => okAll n ds
  | n + 1, .lst ds => okAll n ds
  | _, _ => false
def okAll : Nat → List D → Bool
  | _, [] => true
  | n, d :: ds => okD n d && okAll n ds
end
mutual
def py : D → PyData
  | .non => .none
  | .bl b => .bool b
  | .int i => .int i
  | .str x => .str x
  | .tup ds => .tuple (pys ds)
  | .lst ds => .list (pys ds)
  | _ => .none
def pys : List D → List PyData
  | [] => []
  | d :: ds => py d :: pys ds
end
mutual
theorem okD_lay : ∀ (n : Nat) (d : D), okD n d = true → (py d).canLay0 = true
  | _, .non, _ => by simp [py, PyData.canLay0]
  | _, .bl _, _ => by simp [py, PyData.canLay0]
  | _, .int _, _ => by simp [py, PyData.canLay0]
  | n, .str x, h => by cases n <;> simpa [okD, py] using h
  | 0, .tup _, h => by simp [okD] at h
  | 0, .lst _, h => by simp [okD] at h
  | n + 1, .tup ds, h => by
    simp only [py, PyData.canLay0]
    exact okAll_lay n ds (by simpa [okD] using h)
  | n + 1, .lst ds, h => by
    simp only [py, PyData.canLay0]
    exact okAll_lay n ds (by simpa [okD] using h)
  | n, .dct _, h => by cases n <;> simp [okD] at h
  | n, .obj _ _, h => by cases n <;> simp [okD] at h
  | n, .ty _, h => by cases n <;> simp [okD] at h
  | n, .hnd _, h => by cases n <;> simp [okD] at h
theorem okAll_lay : ∀ (n : Nat) (d : List D), okAll n d = true → PyData.canLayAll0 (pys d) = true
  | _, [], _ => by simp [pys, PyData.canLayAll0]
  | n, d :: ds, h => by
    simp only [okAll, Bool.and_eq_true] at h
    simp only [pys, PyData.canLayAll0, okD_lay n d h.1, okAll_lay n ds h.2, Bool.and_self]
end
mutual
theorem okD_depth : ∀ (n : Nat) (d : D), okD n d = true → (py d).depth ≤ n
  | _, .non, _ => by simp [py, PyData.depth]
  | _, .bl _, _ => by simp [py, PyData.depth]
  | _, .int _, _ => by simp [py, PyData.depth]
  | n, .str x, h => by simp [py, PyData.depth]
  | 0, .tup _, h => by simp [okD] at h
  | 0, .lst _, h => by simp [okD] at h
  | n + 1, .tup ds, h => by
    simp only [py, PyData.depth]
    have := okAll_depth n ds (by simpa [okD] using h)
    omega
  | n + 1, .lst ds, h => by
    simp only [py, PyData.depth]
    have := okAll_depth n ds (by simpa [okD] using h)
    omega
  | n, .dct _, h => by cases n <;> simp [okD] at h
  | n, .obj _ _, h => by cases n <;> simp [okD] at h
  | n, .ty _, h => by cases n <;> simp [okD] at h
  | n, .hnd _, h => by cases n <;> simp [okD] at h
theorem okAll_depth : ∀ (n : Nat) (d : List D), okAll n d = true → PyData.depthAll (pys d) ≤ n
  | _, [], _ => by simp [pys, PyData.depthAll]
  | n, d :: ds, h => by
    simp only [okAll, Bool.and_eq_true] at h
    have h1 := okD_depth n d h.1
    have h2 := okAll_depth n ds h.2
    simp only [pys, PyData.depthAll]
    omega
end
theorem okD_shaped {d : D} (h : okD 64 d = true) : SeqAt.shaped (py d) = true := by
  unfold SeqAt.shaped
  rw [okD_lay 64 d h, Bool.true_and]
  exact decide_eq_true (okD_depth 64 d h)
section
variable {Z : Wd} {O : Addr → Prop} {H : Hp}
mutual
theorem Den.dp {K : PySem.W.Frag} : ∀ {n : Nat} {v : V} {d : D}, okD n d = true → Den Z O H v d → Dp K H v (py d)
  | _, _, _, _, .non => .non
  | _, _, _, _, .bl b => .bl b
  | _, _, _, _, .int i => .int i
  | _, _, _, _, .str x => .str x
  | n, .ty _, .ty _, h, .ty _ => by cases n <;> simp [okD] at h
  | n, _, .hnd _, h, .hnd _ => by cases n <;> simp [okD] at h
  | n, _, _, h, .ref e m c => Cont.dp h e c
theorem Cont.dp {K : PySem.W.Frag} : ∀ {n : Nat} {a : Addr} {o : HO} {d : D}, okD n d = true → H a = some o → Cont Z O H o d → Dp K H (.ref a) (py d)
  | 0, _, _, _, h, e, .tup c => by simp [okD] at h
  | 0, _, _, _, h, e, .lst c => by simp [okD] at h
  | n + 1, _, _, .tup ds, h, e, .tup c => .tup (SqT.of e) (DenA.dp (n := n) (by simpa [okD] using h) c)
  | n + 1, _, _, .lst ds, h, e, .lst c => .lst (SqL.of e) (DenA.dp (n := n) (by simpa [okD] using h) c)
  | n, _, _, .dct _, h, e, .dct c => by cases n <;> simp [okD] at h
  | n, _, _, .obj _ _, h, e, .obj c => by cases n <;> simp [okD] at h
theorem DenA.dp {K : PySem.W.Frag} : ∀ {n : Nat} {vs : List V} {ds : List D}, okAll n ds = true → DenA Z O H vs ds → DpAll K H vs (pys ds)
  | _, _, _, _, .nil => .nil
  | n, _, d :: ds, h, .cons q r => by
    simp only [okAll, Bool.and_eq_true] at h
    exact .cons (Den.dp h.1 q) (DenA.dp h.2 r)
end
theorem Shows.dp {K : PySem.W.Frag} {v : V} {d : D} (h : okD 64 d = true) (s : Shows Z O H v d) : Dp K H v (py d) := by
  cases s with
  | den s => exact s.dp h
  | own e _ c => exact c.dp h e
end

abbrev LEN : Nat := 100000
theorem len_line {n : Nat} (h : n ≤ LEN) : n ≤ sizeLine := Nat.le_trans h (by decide)
/-- numbers that may be multiplied -/
def Fair (i : Int) : Prop := i.natAbs < 2 ^ 8000
instance (i : Int) : Decidable (Fair i) := inferInstanceAs (Decidable (_ < _))

def addD : D → D → Option (D × Bool)
  | .int i, .int j => some (.int (i + j), false)
  | .int i, .bl j => some (.int (i + b2i j), false)
  | .bl i, .int j => some (.int (b2i i + j), false)
  | .str x, .str y => if x.length + y.length ≤ LEN then some (.str (x ++ y), false) else none
  | .lst x, .lst y => if x.length + y.length ≤ LEN then some (.lst (x ++ y), true) else none
  | .tup x, .tup y => if x.length + y.length ≤ LEN then some (.tup (x ++ y), false) else none
  | _, _ => none
def subD : D → D → Option (D × Bool)
  | .int i, .int j => some (.int (i - j), false)
  | .bl i, .int j => some (.int (b2i i - j), false)
  | _, _ => none
def mulD : D → D → Option (D × Bool)
  | .int i, .int j => if Fair i ∧ Fair j then some (.int (i * j), false) else none
  | .lst x, .int k => if -1000 ≤ k ∧ k ≤ 1000 ∧ x.length ≤ 1000 ∧ x.length * k.toNat ≤ LEN then some (.lst (List.replicate k.toNat x).flatten, true) else none
  | .tup x, .int k => if x ≠ [] ∧ -1000 ≤ k ∧ k ≤ 1000 ∧ x.length ≤ 1000 then some (.tup (List.replicate k.toNat x).flatten, false) else none
  | _, _ => none
def fdivD : D → D → Option (D × Bool)
  | .int i, .int j => if 0 < j ∧ Fair j then some (.int (i / j), false) else none
  | _, _ => none
def modD : D → D → Option (D × Bool)
  | .int i, .int j => if 0 < j then some (.int (i % j), false) else none
  | _, _ => none
def powD : D → D → Option (D × Bool)
  | .int i, .int j => if 0 ≤ j ∧ j ≤ 1000 ∧ i.natAbs < 2 ^ 64 then some (.int (i ^ j.toNat), false) else none
  | _, _ => none

section
variable {Z : Wd} {X : Cx}
theorem DenA.reps {O : Addr → Prop} {H : Hp} {xs : List V} {ds : List D} (h : DenA Z O H xs ds) : ∀ k : Nat, DenA Z O H (List.replicate k xs).flatten (List.replicate k ds).flatten
  | 0 => .nil
  | k + 1 => by
    rw [List.replicate_succ, List.flatten_cons, List.replicate_succ, List.flatten_cons]
    exact h.app (DenA.reps h k)
theorem fair_log {i : Int} (h : Fair i) : i.natAbs.log2 < 8000 := by
  refine PySem.Flt.log2_lt_of (by decide) h
theorem op_add_bi : OpR X (binaryOp .Add) (fun x y H Q => ∃ i k, x = .bl i ∧ y = .int k ∧ Q (.int (b2i i + k)) H) := by
  intro pins s σ H x y v u Q I rx ry h
  obtain ⟨i, k, rfl, rfl, q⟩ := h
  cases rx
  obtain ⟨t, rfl⟩ := ry
  exact IntBool.add_bool_int ⟨.int (b2i i + k), H, I.tok _, ⟨_, rfl⟩, q⟩
theorem op_sub_bi : OpR X (binaryOp .Sub) (fun x y H Q => ∃ i k, x = .bl i ∧ y = .int k ∧ Q (.int (b2i i - k)) H) := by
  intro pins s σ H x y v u Q I rx ry h
  obtain ⟨i, k, rfl, rfl, q⟩ := h
  cases rx
  obtain ⟨t, rfl⟩ := ry
  exact IntBool.sub_bool_int ⟨.int (b2i i - k), H, I.tok _, ⟨_, rfl⟩, q⟩
theorem opD_add : OpD Z X (binaryOp .Add) addD := by
  intro pins s σ H x y v u Q I rx ry h
  obtain ⟨O, dx, dy, z, hO, sx, sy, e, q⟩ := h
  unfold addD at e
  split at e
  · cases e
    cases sx.int; cases sy.int
    exact op_add pins s σ H _ _ v u Q I rx ry ⟨_, _, rfl, rfl, q _ _ (.same (.int _))⟩
  · cases e
    cases sx.int; cases sy.bl
    exact op_add_ib pins s σ H _ _ v u Q I rx ry ⟨_, _, rfl, rfl, q _ _ (.same (.int _))⟩
  · cases e
    cases sx.bl; cases sy.int
    exact op_add_bi pins s σ H _ _ v u Q I rx ry ⟨_, _, rfl, rfl, q _ _ (.same (.int _))⟩
  · split at e
    · rename_i hl
      cases e
      cases sx.str; cases sy.str
      exact op_add_str pins s σ H _ _ v u Q I rx ry ⟨_, _, rfl, rfl, len_line hl, q _ _ (.same (.str _))⟩
    · cases e
  · split at e
    · rename_i hl
      cases e
      obtain ⟨a, xs, rfl, h1, c1⟩ := sx.lst
      obtain ⟨b, ys, rfl, h2, c2⟩ := sy.lst
      exact op_cat pins s σ H _ _ v u Q I rx ry ⟨a, b, xs, ys, rfl, rfl, h1, h2, by rw [c1.len, c2.len]; exact len_line hl, fun p hp => q _ _ (.lst hp (c1.app c2))⟩
    · cases e
  · split at e
    · rename_i hl
      cases e
      obtain ⟨a, xs, rfl, h1, c1, n1⟩ := sx.tup
      obtain ⟨b, ys, rfl, h2, c2, n2⟩ := sy.tup
      refine op_catA pins s σ H _ _ v u Q I rx ry ⟨a, b, xs, ys, rfl, rfl, SqT.of h1, SqT.of h2, by rw [c1.len, c2.len]; exact len_line hl, ?_, ?_, ?_⟩
      · intro z
        subst z
        cases c1
        exact q _ _ (.same (.ref h2 n2 (.tup c2)))
      · intro _ z
        subst z
        cases c2
        rw [List.append_nil] at q
        exact q _ _ (.same (.ref h1 n1 (.tup c1)))
      · exact fun _ _ p hp => q _ _ (.tup hO hp (c1.app c2))
    · cases e
  · cases e
theorem opD_sub : OpD Z X (binaryOp .Sub) subD := by
  intro pins s σ H x y v u Q I rx ry h
  obtain ⟨O, dx, dy, z, hO, sx, sy, e, q⟩ := h
  unfold subD at e
  split at e
  · cases e
    cases sx.int; cases sy.int
    exact op_sub pins s σ H _ _ v u Q I rx ry ⟨_, _, rfl, rfl, q _ _ (.same (.int _))⟩
  · cases e
    cases sx.bl; cases sy.int
    exact op_sub_bi pins s σ H _ _ v u Q I rx ry ⟨_, _, rfl, rfl, q _ _ (.same (.int _))⟩
  · cases e
theorem opD_mul : OpD Z X (binaryOp .Mult) mulD := by
  intro pins s σ H x y v u Q I rx ry h
  obtain ⟨O, dx, dy, z, hO, sx, sy, e, q⟩ := h
  unfold mulD at e
  split at e
  · split at e
    · rename_i hc
      cases e
      cases sx.int; cases sy.int
      exact op_mulW pins s σ H _ _ v u Q I rx ry ⟨_, _, rfl, rfl, wide_mul hc.1 hc.2 (by decide) (by decide) (by decide), q _ _ (.same (.int _))⟩
    · cases e
  · split at e
    · rename_i hc
      cases e
      obtain ⟨a, xs, rfl, h1, c1⟩ := sx.lst
      cases sy.int
      exact op_rep pins s σ H _ _ v u Q I rx ry ⟨a, _, xs, rfl, rfl, h1, by omega, by omega, by rw [c1.len]; exact len_line hc.2.2.2, fun p hp => q _ _ (.lst hp (c1.reps _))⟩
    · cases e
  · split at e
    · rename_i hc
      cases e
      obtain ⟨a, xs, rfl, h1, c1, n1⟩ := sx.tup
      cases sy.int
      rename_i k
      have ne : xs ≠ [] := fun z => hc.1 (by subst z; cases c1; rfl)
      by_cases k1 : k = 1
      · subst k1
        refine op_rep1 pins s σ H _ _ v u Q I rx ry ⟨a, xs, rfl, rfl, SqT.of h1, q _ _ (.same ?_)⟩
        have e : (List.replicate (Int.toNat 1) ‹List D›).flatten = ‹List D› := by simp
        rw [e]
        exact .ref h1 n1 (.tup c1)
      by_cases k0 : k ≤ 0
      · refine op_rep0 pins s σ H _ _ v u Q I rx ry ⟨a, _, xs, rfl, rfl, SqT.of h1, ne, hc.2.1, k0, fun p hp => q _ _ (.tup hO hp ?_)⟩
        rw [Int.toNat_of_nonpos k0]
        exact .nil
      exact op_repT pins s σ H _ _ v u Q I rx ry ⟨a, _, xs, rfl, rfl, SqT.of h1, ne, by omega, hc.2.2.1, by rw [c1.len]; exact hc.2.2.2, fun p hp => q _ _ (.tup hO hp (c1.reps _))⟩
    · cases e
  · cases e
theorem opD_fdiv : OpD Z X (binaryOp .FloorDiv) fdivD := by
  intro pins s σ H x y v u Q I rx ry h
  obtain ⟨O, dx, dy, z, hO, sx, sy, e, q⟩ := h
  unfold fdivD at e
  split at e
  · split at e
    · rename_i hc
      cases e
      cases sx.int; cases sy.int
      exact op_fdivW pins s σ H _ _ v u Q I rx ry ⟨_, _, rfl, rfl, wide_div hc.1 hc.2 (by decide) (by decide), q _ _ (.same (.int _))⟩
    · cases e
  · cases e
theorem opD_mod : OpD Z X (binaryOp .Mod) modD := by
  intro pins s σ H x y v u Q I rx ry h
  obtain ⟨O, dx, dy, z, hO, sx, sy, e, q⟩ := h
  unfold modD at e
  split at e
  · split at e
    · rename_i hc
      cases e
      cases sx.int; cases sy.int
      exact op_mod pins s σ H _ _ v u Q I rx ry ⟨_, _, rfl, rfl, hc, q _ _ (.same (.int _))⟩
    · cases e
  · cases e
theorem opD_pow : OpD Z X (binaryOp .Pow) powD := by
  intro pins s σ H x y v u Q I rx ry h
  obtain ⟨O, dx, dy, z, hO, sx, sy, e, q⟩ := h
  unfold powD at e
  split at e
  · split at e
    · rename_i hc
      cases e
      cases sx.int; cases sy.int
      exact op_pow pins s σ H _ _ v u Q I rx ry ⟨_, _, rfl, rfl, ⟨hc.1, by omega, hc.2.2⟩, q _ _ (.same (.int _))⟩
    · cases e
  · cases e
/-! ### comparisons -/
def eqB (x y : D) : Bool := PyData.eqv (py x) (py y)
/-- what is told apart whatever the items are; two empty dicts -/
def eqX : D → D → Option (D × Bool)
  | .dct [], .dct [] => some (.bl true, false)
  | .tup (_ :: _), .tup [] => some (.bl false, false)
  | .lst (_ :: _), .lst [] => some (.bl false, false)
  | _, _ => none
def neX : D → D → Option (D × Bool)
  | .tup (_ :: _), .tup [] => some (.bl true, false)
  | .lst (_ :: _), .lst [] => some (.bl true, false)
  | _, _ => none
def eqD : D → D → Option (D × Bool)
  | .str a, .str b => some (.bl (decide (a = b)), false)
  | x, y => if okD 64 x = true ∧ okD 64 y = true then some (.bl (eqB x y), false) else eqX x y
def neD : D → D → Option (D × Bool)
  | .str a, .str b => some (.bl (!decide (a = b)), false)
  | x, y => if okD 64 x = true ∧ okD 64 y = true then some (.bl (!eqB x y), false) else neX x y
/-- a tuple of something, an empty one -/
theorem tup_nil {pins : List (Addr × Obj)} {s : Shared} {σ : L2.St} {H : Hp} {a b : Addr} {x : V} {xs : List V} (hu : X.A.units < cLine) (I : Inv X pins σ H s) (ha : SqT X.K H a (x :: xs)) (hb : SqT X.K H b []) :
    SeqAt.RcAt X.A s (.ref a) (.ref b) false ∧ SeqAt.RcNeAt X.A s (.ref a) (.ref b) true := by
  obtain ⟨its, r, pl, _⟩ := I.tuple ha
  obtain ⟨its2, r2, pl2, _⟩ := I.tuple hb
  cases r2
  have hl := r.length
  simp only [List.length_cons] at hl
  refine ⟨?_, ?_⟩
  · have := SeqAt.RcAt.tuples (e := fun _ => true) pl pl2 hu (fun j h1 h2 => by simp at h2)
    have e : ((List.range (min its.toArray.size ([] : List Value).toArray.size)).all (fun _ => true) && its.toArray.size == ([] : List Value).toArray.size) = false := by
      have : (its.toArray.size == ([] : List Value).toArray.size) = false := by simp; intro z; subst z; simp at hl
      rw [this, Bool.and_false]
    rw [e] at this
    exact this
  · have := SeqAt.RcNeAt.tuples (e := fun _ => true) pl pl2 hu (fun j h1 h2 => by simp at h2)
    have e : (!((List.range (min its.toArray.size ([] : List Value).toArray.size)).all (fun _ => true) && its.toArray.size == ([] : List Value).toArray.size)) = true := by
      have : (its.toArray.size == ([] : List Value).toArray.size) = false := by simp; intro z; subst z; simp at hl
      rw [this, Bool.and_false]
      rfl
    rw [e] at this
    exact this
theorem lst_nil {pins : List (Addr × Obj)} {s : Shared} {σ : L2.St} {H : Hp} {a b : Addr} {x : V} {xs : List V} (hu : X.A.units < cLine) (I : Inv X pins σ H s) (ha : SqL X.K H a (x :: xs)) (hb : SqL X.K H b []) :
    SeqAt.RcAt X.A s (.ref a) (.ref b) false ∧ SeqAt.RcNeAt X.A s (.ref a) (.ref b) true := by
  obtain ⟨its, r, pl, _⟩ := I.list ha
  obtain ⟨its2, r2, pl2, _⟩ := I.list hb
  cases r2
  have hl := r.length
  simp only [List.length_cons] at hl
  have hn : (its.toArray.size != ([] : List Value).toArray.size) = true := by
    simp
    intro z
    subst z
    simp at hl
  exact ⟨SeqAt.RcAt.lists_lengths pl.isList pl2.isList hn hu, SeqAt.RcNeAt.lists_lengths pl.isList pl2.isList hn hu⟩
theorem dec_strV (a b : Str) : decide (V.str a = V.str b) = decide (a = b) := by
  by_cases h : a = b
  · subst h; simp
  · rw [decide_eq_false h, decide_eq_false (fun z => h (V.str.inj z))]
theorem opD_eq (hu : X.A.units + 64 < cLine) : OpD Z X (compareOp .Eq) eqD := by
  intro pins s σ H x y v u Q I rx ry h
  obtain ⟨O, dx, dy, z, hO, sx, sy, e, q⟩ := h
  unfold eqD at e
  split at e
  · cases e
    cases sx.str; cases sy.str
    exact op_eq pins s σ H _ _ v u Q I rx ry ⟨rfl, by rw [dec_strV]; exact q _ _ (.same (.bl _))⟩
  · split at e
    · rename_i hc
      cases e
      exact op_eqD hu pins s σ H _ _ v u Q I rx ry ⟨_, _, sx.dp hc.1, sy.dp hc.2, okD_shaped hc.1, okD_shaped hc.2, q _ _ (.same (.bl _))⟩
    · unfold eqX at e
      split at e
      · cases e
        obtain ⟨a, xs, rfl, h1, c1⟩ := sx.dct
        obtain ⟨b, ys, rfl, h2, c2⟩ := sy.dct
        cases c1; cases c2
        exact op_eqV hu pins s σ H _ _ v u Q I rx ry ⟨0, by omega, .inr ⟨a, b, [], [], rfl, rfl, h1, h2, rfl, fun _ m => by cases m⟩, q _ _ (.same (.bl _))⟩
      · cases e
        obtain ⟨a, xs, rfl, h1, c1, n1⟩ := sx.tup
        obtain ⟨b, ys, rfl, h2, c2, n2⟩ := sy.tup
        cases c2
        cases c1
        cases (show v = Value.ref a from rx)
        cases (show u = Value.ref b from ry)
        exact (tup_nil (by omega) I (SqT.of h1) (SqT.of h2)).1 _ _ _ _ ⟨.bl false, H, I, rfl, q _ _ (.same (.bl _))⟩
      · cases e
        obtain ⟨a, xs, rfl, h1, c1⟩ := sx.lst
        obtain ⟨b, ys, rfl, h2, c2⟩ := sy.lst
        cases c2
        cases c1
        cases (show v = Value.ref a from rx)
        cases (show u = Value.ref b from ry)
        exact (lst_nil (by omega) I (SqL.of h1) (SqL.of h2)).1 _ _ _ _ ⟨.bl false, H, I, rfl, q _ _ (.same (.bl _))⟩
      · cases e
theorem opD_ne (hu : X.A.units + 64 < cLine) : OpD Z X (compareOp .NotEq) neD := by
  intro pins s σ H x y v u Q I rx ry h
  obtain ⟨O, dx, dy, z, hO, sx, sy, e, q⟩ := h
  unfold neD at e
  split at e
  · cases e
    cases sx.str; cases sy.str
    exact op_ne pins s σ H _ _ v u Q I rx ry ⟨rfl, by rw [dec_strV]; exact q _ _ (.same (.bl _))⟩
  · split at e
    · rename_i hc
      cases e
      exact op_neD hu pins s σ H _ _ v u Q I rx ry ⟨_, _, sx.dp hc.1, sy.dp hc.2, okD_shaped hc.1, okD_shaped hc.2, q _ _ (.same (.bl _))⟩
    · unfold neX at e
      split at e
      · cases e
        obtain ⟨a, xs, rfl, h1, c1, n1⟩ := sx.tup
        obtain ⟨b, ys, rfl, h2, c2, n2⟩ := sy.tup
        cases c2
        cases c1
        cases (show v = Value.ref a from rx)
        cases (show u = Value.ref b from ry)
        exact (tup_nil (by omega) I (SqT.of h1) (SqT.of h2)).2 _ _ _ _ ⟨.bl true, H, I, rfl, q _ _ (.same (.bl _))⟩
      · cases e
        obtain ⟨a, xs, rfl, h1, c1⟩ := sx.lst
        obtain ⟨b, ys, rfl, h2, c2⟩ := sy.lst
        cases c2
        cases c1
        cases (show v = Value.ref a from rx)
        cases (show u = Value.ref b from ry)
        exact (lst_nil (by omega) I (SqL.of h1) (SqL.of h2)).2 _ _ _ _ ⟨.bl true, H, I, rfl, q _ _ (.same (.bl _))⟩
      · cases e
def ltD : D → D → Option (D × Bool)
  | .int i, .int j => some (.bl (decide (i < j)), false)
  | _, _ => none
def leD : D → D → Option (D × Bool)
  | .int i, .int j => some (.bl (decide (i ≤ j)), false)
  | _, _ => none
def gtD : D → D → Option (D × Bool)
  | .int i, .int j => some (.bl (decide (j < i)), false)
  | _, _ => none
def geD : D → D → Option (D × Bool)
  | .int i, .int j => some (.bl (decide (j ≤ i)), false)
  | _, _ => none
theorem opD_lt : OpD Z X (compareOp .Lt) ltD := by
  intro pins s σ H x y v u Q I rx ry h
  obtain ⟨O, dx, dy, z, hO, sx, sy, e, q⟩ := h
  unfold ltD at e
  split at e
  · cases e
    cases sx.int; cases sy.int
    exact op_lt pins s σ H _ _ v u Q I rx ry ⟨_, _, rfl, rfl, q _ _ (.same (.bl _))⟩
  · cases e
theorem opD_le : OpD Z X (compareOp .LtE) leD := by
  intro pins s σ H x y v u Q I rx ry h
  obtain ⟨O, dx, dy, z, hO, sx, sy, e, q⟩ := h
  unfold leD at e
  split at e
  · cases e
    cases sx.int; cases sy.int
    exact op_le pins s σ H _ _ v u Q I rx ry ⟨_, _, rfl, rfl, q _ _ (.same (.bl _))⟩
  · cases e
theorem opD_gt : OpD Z X (compareOp .Gt) gtD := by
  intro pins s σ H x y v u Q I rx ry h
  obtain ⟨O, dx, dy, z, hO, sx, sy, e, q⟩ := h
  unfold gtD at e
  split at e
  · cases e
    cases sx.int; cases sy.int
    exact op_gt pins s σ H _ _ v u Q I rx ry ⟨_, _, rfl, rfl, q _ _ (.same (.bl _))⟩
  · cases e
theorem opD_ge : OpD Z X (compareOp .GtE) geD := by
  intro pins s σ H x y v u Q I rx ry h
  obtain ⟨O, dx, dy, z, hO, sx, sy, e, q⟩ := h
  unfold geD at e
  split at e
  · cases e
    cases sx.int; cases sy.int
    exact op_ge pins s σ H _ _ v u Q I rx ry ⟨_, _, rfl, rfl, q _ _ (.same (.bl _))⟩
  · cases e
def isNon : D → Bool
  | .non => true
  | _ => false
/-- is None: of data that are no handles -/
def isD : D → D → Option (D × Bool)
  | .hnd _, _ => none
  | x, .non => some (.bl (isNon x), false)
  | .bl a, .bl b => some (.bl (decide (a = b)), false)
  | _, _ => none
def isntD : D → D → Option (D × Bool)
  | .hnd _, _ => none
  | x, .non => some (.bl (!isNon x), false)
  | .bl a, .bl b => some (.bl (!decide (a = b)), false)
  | _, _ => none
theorem Shows.isNon {O : Addr → Prop} {H : Hp} {v : V} {d : D} (h : Shows Z O H v d) (n : ∀ k, d ≠ .hnd k) : decide (v = .non) = FD.isNon d := by
  cases h with
  | own => 
    rename_i c
    cases c <;> rfl
  | den h => cases h with
    | ref e m c => cases c <;> rfl
    | hnd k => exact absurd rfl (n k)
    | _ => rfl
theorem opD_is : OpD Z X (compareOp .Is) isD := by
  intro pins s σ H x y v u Q I rx ry h
  obtain ⟨O, dx, dy, z, hO, sx, sy, e, q⟩ := h
  unfold isD at e
  split at e
  · cases e
  · rename_i n
    cases e
    cases sy.non
    exact op_isN pins s σ H _ _ v u Q I rx ry ⟨rfl, q _ _ (.same (by rw [sx.isNon n]; exact .bl _))⟩
  · cases e
    cases sx.bl; cases sy.bl
    exact op_isBl pins s σ H _ _ v u Q I rx ry ⟨_, _, rfl, rfl, q _ _ (.same (.bl _))⟩
  · cases e
theorem opD_isnt : OpD Z X (compareOp .IsNot) isntD := by
  intro pins s σ H x y v u Q I rx ry h
  obtain ⟨O, dx, dy, z, hO, sx, sy, e, q⟩ := h
  unfold isntD at e
  split at e
  · cases e
  · rename_i n
    cases e
    cases sy.non
    exact op_notN pins s σ H _ _ v u Q I rx ry ⟨rfl, q _ _ (.same (by rw [sx.isNon n]; exact .bl _))⟩
  · cases e
    cases sx.bl; cases sy.bl
    exact op_notBl pins s σ H _ _ v u Q I rx ry ⟨_, _, rfl, rfl, q _ _ (.same (.bl _))⟩
  · cases e
def negD : D → Option (D × Bool)
  | .int i => some (.int (-i), false)
  | _ => none
theorem unD_neg : UnD Z X (unaryOp .USub) negD := by
  intro pins s σ H x v Q I rx h
  obtain ⟨O, dx, z, hO, sx, e, q⟩ := h
  unfold negD at e
  split at e
  · cases e
    cases sx.int
    exact un_neg pins s σ H _ v Q I rx ⟨_, rfl, q _ _ (.same (.int _))⟩
  · cases e
end
end FD

/-! F4: argument lists, displays, calls of built-in functions, subscripts, slices, tests. -/
namespace FD
open PySem PySem.Spec PyProof.Rows L2

inductive OutA where
  | ok (rs : List Res) | ex (c : Str) (fs : List (Str × D))
abbrev AF (T : Type) := Sg T → Option (OutA × Sg T)
inductive ResOks {Z : Wd} (C : Fx Z) (σ : L2.St) (ow : Nat → Option Addr) (τ : List Sl) (H : Hp) : List V → List Res → Prop
  | nil : ResOks C σ ow τ H [] []
  | cons {v : V} {r : Res} {vs : List V} {rs : List Res} : ResOk C ow τ σ H v (hold r) → ResOks C σ ow τ H vs rs → ResOks C σ ow τ H (v :: vs) (hold r :: rs)
def FinA {Z : Wd} (C : Fx Z) (ow : Nat → Option Addr) (σ : L2.St) (H : Hp) (Q : List V → Hp → Prop) (s' : Sg Z.T) : OutA → Prop
  | .ok rs => ∀ ow' vs H', C.Rel ow' s'.1 s'.2 σ H' → ow' 0 = none → ResOks C σ ow' s'.1 H' vs rs → Ext (C.Hid ow) H (C.Hid ow') H' → Q vs H'
  | .ex c fs => ∀ ow' d H', C.Rel ow' s'.1 s'.2 σ H' → ow' 0 = none → Ext (C.Hid ow) H (C.Hid ow') H' → ExOk Z (C.Hid ow') H' d fs → C.W (.ref (Z.ca c)) d σ H'
def KnA {Z : Wd} (C : Fx Z) (f : AF Z.T) (ow : Nat → Option Addr) (τ : List Sl) (t : Z.T) (σ : L2.St) (H : Hp) (Q : List V → Hp → Prop) : Prop := ∃ o s', f (τ, t) = some (o, s') ∧ FinA C ow σ H Q s' o
def tA {Z : Wd} (C : Fx Z) (f : AF Z.T) : TA := fun σ H Q => ∃ ow τ t, C.Rel ow τ t σ H ∧ ow 0 = none ∧ KnA C f ow τ t σ H Q

def nilA {T : Type} : AF T := fun s => some (.ok [], s)
def consA {T : Type} (f : EF T) (g : AF T) : AF T := fun s => match f s with
  | none => none
  | some (.ex c fs, s1) => some (.ex c fs, s1)
  | some (.ok r, s1) => match g s1 with
    | none => none
    | some (.ex c fs, s2) => some (.ex c fs, s2)
    | some (.ok rs, s2) => some (.ok (hold r :: rs), s2)

section
variable {Z : Wd} {C : Fx Z} {X : Cx} {ow ow' : Nat → Option Addr} {τ : List Sl} {t : Z.T} {σ : L2.St} {H H' : Hp} {f : EF Z.T} {g : AF Z.T}
theorem FinA.from {Q : List V → Hp → Prop} (x : Ext (C.Hid ow) H (C.Hid ow') H') {s' : Sg Z.T} {o : OutA} (h : FinA C ow σ H Q s' o) : FinA C ow' σ H' Q s' o := by
  cases o with
  | ok r => exact fun ow2 v H2 R2 z r2 x2 => h ow2 v H2 R2 z r2 (x.trans x2)
  | ex c fs => exact fun ow2 d H2 R2 z x2 e => h ow2 d H2 R2 z (x.trans x2) e
theorem KnA.from {Q : List V → Hp → Prop} (x : Ext (C.Hid ow) H (C.Hid ow') H') (h : KnA C g ow τ t σ H Q) : KnA C g ow' τ t σ H' Q := by
  obtain ⟨o, s', e, h⟩ := h
  exact ⟨o, s', e, h.from x⟩
theorem tA_mono {Q Q' : List V → Hp → Prop} (h : tA C g σ H Q) (k : ∀ v H, Q v H → Q' v H) : tA C g σ H Q' := by
  obtain ⟨ow, τ, t, R, h0, o, s', e, h⟩ := h
  refine ⟨ow, τ, t, R, h0, o, s', e, ?_⟩
  cases o with
  | ok r => exact fun ow' v H' R' z r' x => k v H' (h ow' v H' R' z r' x)
  | ex c fs => exact h
/-- a held result, later -/
theorem ResOk.carry {ow' : Nat → Option Addr} {τ τ' : List Sl} {v : V} {r : Res} (h : ResOk C ow τ σ H v (FD.hold r)) (z : ow' 0 = none) (x : Ext (C.Hid ow) H (C.Hid ow') H') : ResOk C ow' τ' σ H' v (FD.hold r) := by
  cases r with
  | d _ => exact ⟨z, h.2.ext x⟩
  | f _ => exact ⟨z, h.2.ext x⟩
  | s _ => exact ⟨z, h.2⟩
theorem tA_nil {Q : List V → Hp → Prop} (h : tA C nilA σ H Q) : tNil σ H Q := by
  obtain ⟨ow, τ, t, R, h0, o, s', e, h⟩ := h
  cases e
  exact h ow [] H R h0 .nil .refl
theorem tA_cons {Q : List V → Hp → Prop} (h : tA C (consA f g) σ H Q) : tCons (tF C f) (tA C g) σ H Q := by
  obtain ⟨ow, τ, t, R, h0, o, s', e, h⟩ := h
  unfold consA at e
  cases q : f (τ, t) with
  | none => rw [q] at e; cases e
  | some z =>
    obtain ⟨o1, s1⟩ := z
    rw [q] at e
    cases o1 with
    | ex c fs =>
      cases e
      exact ⟨ow, τ, t, _, _, R, h0, q, h⟩
    | ok r =>
      refine ⟨ow, τ, t, _, _, R, h0, q, fun ow1 v H1 R1 r1 x1 => ?_⟩
      obtain ⟨ow2, R2, z2, r2, x2⟩ := r1.hold R1
      have x12 := x1.trans x2
      cases q2 : g s1 with
      | none => simp only [q2] at e; cases e
      | some w =>
        obtain ⟨o2, s2⟩ := w
        simp only [q2] at e
        cases o2 with
        | ex c fs =>
          cases e
          exact ⟨ow2, s1.1, s1.2, R2, z2, _, _, q2, fun ow3 d H3 R3 z3 x3 e3 => h ow3 d H3 R3 z3 (x12.trans x3) e3⟩
        | ok rs =>
          cases e
          exact ⟨ow2, s1.1, s1.2, R2, z2, _, _, q2, fun ow3 vs H3 R3 z3 rs3 x3 => h ow3 _ H3 R3 z3 (.cons (r2.carry z3 x3) rs3) (x12.trans x3)⟩
theorem ev_anil : PA X [] (tA C nilA) := ⟨fun pos pins s σ H Q I h => pa_nil.run pos pins s σ H Q I (tA_nil h)⟩
theorem ev_acons {e : Expr} {es : List Expr} (ha : PE X e (tF C f)) (hr : PA X es (tA C g)) (hs : starEach (e :: es) X.env = (false, eval e X.env) :: starEach es X.env := by rfl) : PA X (e :: es) (tA C (consA f g)) :=
  ⟨fun pos pins s σ H Q I h => (pa_cons ha hr hs).run pos pins s σ H Q I (tA_cons h)⟩
end

/-! ### arguments used -/
def peekAll (τ : List Sl) : List Res → Option (List D)
  | [] => some []
  | r :: rs => match peek τ r, peekAll τ rs with
    | some d, some ds => some (d :: ds)
    | _, _ => none
def giveAll (τ : List Sl) : List Res → Option (List D × List Sl)
  | [] => some ([], τ)
  | r :: rs => match give τ r with
    | none => none
    | some (d, τ1) => match giveAll τ1 rs with
      | none => none
      | some (ds, τ2) => some (d :: ds, τ2)
inductive ShowsA (Z : Wd) (O : Addr → Prop) (H : Hp) : List V → List D → Prop
  | nil : ShowsA Z O H [] []
  | cons {v : V} {d : D} {vs : List V} {ds : List D} : Shows Z O H v d → ShowsA Z O H vs ds → ShowsA Z O H (v :: vs) (d :: ds)
section
variable {Z : Wd} {C : Fx Z} {X : Cx} {ow ow' : Nat → Option Addr} {τ : List Sl} {t : Z.T} {σ : L2.St} {H H' : Hp} {f : EF Z.T} {g : AF Z.T}
theorem ResOks.peek : ∀ {vs : List V} {rs : List Res} {ds : List D}, C.Rel ow τ t σ H → ResOks C σ ow τ H vs rs → peekAll τ rs = some ds → ShowsA Z (C.Hid ow) H vs ds
  | _, _, _, _, .nil, e => by cases e; exact .nil
  | _, _, _, R, .cons h r, e => by
    unfold peekAll at e
    split at e
    · rename_i p1 p2
      cases e
      exact .cons (h.peek R p1) (ResOks.peek R r p2)
    · cases e
theorem ResOks.carry : ∀ {vs : List V} {rs : List Res} {τ' : List Sl}, ow' 0 = none → Ext (C.Hid ow) H (C.Hid ow') H' → ResOks C σ ow τ H vs rs → ResOks C σ ow' τ' H' vs rs
  | _, _, _, _, _, .nil => .nil
  | _, _, _, z, x, .cons h r => .cons (h.carry z x) (ResOks.carry z x r)
theorem ResOks.give : ∀ {vs : List V} {rs : List Res} {ds : List D} {ow : Nat → Option Addr} {τ τ' : List Sl}, C.Rel ow τ t σ H → ow 0 = none → ResOks C σ ow τ H vs rs → giveAll τ rs = some (ds, τ') →
    ∃ ow', C.Rel ow' τ' t σ H ∧ ow' 0 = none ∧ DenA Z (C.Hid ow') H vs ds ∧ Ext (C.Hid ow) H (C.Hid ow') H
  | _, _, _, ow, _, _, R, z, .nil, e => by cases e; exact ⟨ow, R, z, .nil, .refl⟩
  | _, _, _, _, _, _, R, z, .cons h r, e => by
    unfold giveAll at e
    split at e
    · cases e
    · rename_i d τ1 p1
      split at e
      · cases e
      · rename_i ds τ2 p2
        cases e
        obtain ⟨ow1, R1, z1, d1, x1⟩ := h.give R p1
        obtain ⟨ow2, R2, z2, d2, x2⟩ := ResOks.give R1 z1 (r.carry z1 x1) p2
        exact ⟨ow2, R2, z2, .cons (d1.ext x2) d2, x1.trans x2⟩
end

/-! ### displays -/
def dispF {T : Type} (mk : List D → D) (fr : Bool) (g : AF T) : EF T := fun s => match g s with
  | none => none
  | some (.ex c fs, s1) => some (.ex c fs, s1)
  | some (.ok rs, s1) => match giveAll s1.1 rs with
    | none => none
    | some (ds, τ) => if ds.length ≤ LEN then some (.ok (resOf (mk ds, fr)), (τ, s1.2)) else none
def tupF {T : Type} (g : AF T) : EF T := dispF .tup false g
def lstF {T : Type} (g : AF T) : EF T := dispF .lst true g
section
variable {Z : Wd} {C : Fx Z} {X : Cx} {es : List Expr} {e a b : Expr} {pos : Pos} {f fa fb : EF Z.T} {g : AF Z.T} {σ : L2.St} {H : Hp}
theorem disp_of {Q : VK} {mk : List D → D} {fr : Bool} (h : tF C (dispF mk fr g) σ H Q) : tA C g σ H fun xs H1 => xs.length ≤ sizeLine ∧
    ∃ ow ds, (∀ p, H1 p = none → ¬ C.Hid ow p) ∧ DenA Z (C.Hid ow) H1 xs ds ∧ ∀ v H', Gets Z (C.Hid ow) H1 v H' (mk ds, fr) → Q v H' := by
  obtain ⟨ow, τ, t, o, s', R, h0, e, h⟩ := h
  unfold dispF at e
  cases q : g (τ, t) with
  | none => rw [q] at e; cases e
  | some z =>
    obtain ⟨o1, s1⟩ := z
    rw [q] at e
    cases o1 with
    | ex c fs =>
      cases e
      exact ⟨ow, τ, t, R, h0, _, _, q, h⟩
    | ok rs =>
      refine ⟨ow, τ, t, R, h0, _, _, q, fun ow1 vs H1 R1 z1 r1 x1 => ?_⟩
      simp only at e
      split at e
      · cases e
      · rename_i ds τ2 p
        split at e
        · rename_i hl
          cases e
          obtain ⟨ow2, R2, z2, d2, x2⟩ := r1.give R1 z1 p
          refine ⟨by rw [d2.len]; exact len_line hl, ow2, ds, fun p hp => R2.nohid hp, d2, fun v H' gt => ?_⟩
          obtain ⟨ow3, R3, r3, x3⟩ := R2.gets z2 gt
          exact h ow3 v H' R3 r3 ((x1.trans x2).trans x3)
        · cases e
theorem ev_tup {k : Nat} (h : PA X es (tA C g)) : PE X (.Tuple es k pos) (tF C (tupF g)) := ⟨fun pins s σ H Q I q => (pe_tup h).run pins s σ H Q I (tA_mono (disp_of q) fun xs H1 ⟨z, ow, ds, hO, d, k⟩ => ⟨z, fun p hp => k _ _ (.tup hO hp d)⟩)⟩
theorem ev_lst (h : PA X es (tA C g)) : PE X (.List es pos) (tF C (lstF g)) := ⟨fun pins s σ H Q I q => (pe_lst h).run pins s σ H Q I (tA_mono (disp_of q) fun xs H1 ⟨z, ow, ds, hO, d, k⟩ => ⟨z, fun p hp => k _ _ (.lst hp d)⟩)⟩

/-! ### built-in functions -/
def rDA (Z : Wd) (op : List D → Option (D × Bool)) : List V → Hp → VK → Prop := fun vs H Q => ∃ O ds z, (∀ p, H p = none → ¬ O p) ∧ ShowsA Z O H vs ds ∧ op ds = some z ∧ ∀ v H', Gets Z O H v H' z → Q v H'
def CallD (Z : Wd) (X : Cx) (f : Value) (op : List D → Option (D × Bool)) : Prop := CallR X f (rDA Z op)
def callF {T : Type} (op : List D → Option (D × Bool)) (g : AF T) : EF T := fun s => match g s with
  | none => none
  | some (.ex c fs, s1) => some (.ex c fs, s1)
  | some (.ok rs, s1) => match peekAll s1.1 rs with
    | none => none
    | some ds => match op ds with
      | none => none
      | some z => some (.ok (resOf z), s1)
theorem call_of {Q : VK} {op : List D → Option (D × Bool)} (h : tF C (callF op g) σ H Q) : tA C g σ H fun xs H1 => rDA Z op xs H1 Q := by
  obtain ⟨ow, τ, t, o, s', R, h0, e, h⟩ := h
  unfold callF at e
  cases q : g (τ, t) with
  | none => rw [q] at e; cases e
  | some z =>
    obtain ⟨o1, s1⟩ := z
    rw [q] at e
    cases o1 with
    | ex c fs =>
      cases e
      exact ⟨ow, τ, t, R, h0, _, _, q, h⟩
    | ok rs =>
      refine ⟨ow, τ, t, R, h0, _, _, q, fun ow1 vs H1 R1 z1 r1 x1 => ?_⟩
      simp only at e
      split at e
      · cases e
      · rename_i ds p
        split at e
        · cases e
        · rename_i z p2
          cases e
          refine ⟨_, ds, z, fun p hp => R1.nohid hp, r1.peek R1 p, p2, fun v H' gt => ?_⟩
          obtain ⟨ow3, R3, r3, x3⟩ := R1.gets z1 gt
          exact h ow3 v H' R3 r3 (x1.trans x3)
theorem ev_callB {x : Str} {id : String} {p : Pos} {op : List D → Option (D × Bool)} (hc : CallD Z X (.builtin id) op) (hg : Gl X x) (hm : X.mg x = none) (hv : bootBuiltins x = some (.builtin id)) (ha : PA X (e :: es) (tA C g)) (hn : x ≠ "__name__" := by decide) (hdb : (x == ("__debug__" : Str)) = false := by decide)
    (he : starEach (e :: es) X.env = (false, eval e X.env) :: starEach es X.env := by rfl) (hpl : (backTo pos (starEach es X.env)).any (·.1) = false := by rfl) : PE X (.Call (.Name x p) (e :: es) [] pos) (tF C (callF op g)) :=
  ⟨fun pins s σ H Q I h => (pe_callB hc hg hm hv ha hn hdb he hpl).run pins s σ H Q I (call_of h)⟩
theorem ev_callTy {x : Str} {T : String} {p : Pos} {op : List D → Option (D × Bool)} (hc : CallD Z X (.type T) op) (hg : Gl X x) (hm : X.mg x = none) (hv : bootBuiltins x = some (.type T)) (ha : PA X (e :: es) (tA C g)) (hn : x ≠ "__name__" := by decide) (hdb : (x == ("__debug__" : Str)) = false := by decide)
    (he : starEach (e :: es) X.env = (false, eval e X.env) :: starEach es X.env := by rfl) (hpl : (backTo pos (starEach es X.env)).any (·.1) = false := by rfl) : PE X (.Call (.Name x p) (e :: es) [] pos) (tF C (callF op g)) :=
  ⟨fun pins s σ H Q I h => (pe_callTy hc hg hm hv ha hn hdb he hpl).run pins s σ H Q I (call_of h)⟩

/-! ### subscripts -/
theorem ev_ix {op : D → D → Option (D × Bool)} (hr : IxR X (rD2 Z op)) (ha : PE X a (tF C fa)) (hb : PE X b (tF C fb)) (hs : PlainIx b) : PE X (.Subscript a b pos) (tF C (binF op fa fb)) :=
  ⟨fun pins s σ H Q I h => (pe_ix hr ha hb hs).run pins s σ H Q I (tOp_of h)⟩
end
end FD

/-! F5: tests, and, or, not, conditional expressions, chains. -/
namespace FD
open PySem PySem.Spec PyProof.Rows L2

def FinT {Z : Wd} (C : Fx Z) (ow : Nat → Option Addr) (σ : L2.St) (H : Hp) (Q : Bool → Hp → Prop) (s' : Sg Z.T) : Out → Prop
  | .ok r => ∃ b, peek s'.1 (hold r) = some (.bl b) ∧ ∀ ow' H', C.Rel ow' s'.1 s'.2 σ H' → ow' 0 = none → Ext (C.Hid ow) H (C.Hid ow') H' → Q b H'
  | .ex c fs => ∀ ow' d H', C.Rel ow' s'.1 s'.2 σ H' → ow' 0 = none → Ext (C.Hid ow) H (C.Hid ow') H' → ExOk Z (C.Hid ow') H' d fs → C.W (.ref (Z.ca c)) d σ H'
def KnT {Z : Wd} (C : Fx Z) (f : EF Z.T) (ow : Nat → Option Addr) (τ : List Sl) (t : Z.T) (σ : L2.St) (H : Hp) (Q : Bool → Hp → Prop) : Prop := ∃ o s', f (τ, t) = some (o, s') ∧ FinT C ow σ H Q s' o
def tT {Z : Wd} (C : Fx Z) (f : EF Z.T) : TT := fun σ H Q => ∃ ow τ t, C.Rel ow τ t σ H ∧ ow 0 = none ∧ KnT C f ow τ t σ H Q

section
variable {Z : Wd} {C : Fx Z} {X : Cx} {ow ow' : Nat → Option Addr} {τ : List Sl} {t : Z.T} {σ : L2.St} {H H' : Hp} {f g h : EF Z.T} {a b c e : Expr} {pos : Pos} {rest : List Expr}
theorem FinT.from {Q : Bool → Hp → Prop} (x : Ext (C.Hid ow) H (C.Hid ow') H') {s' : Sg Z.T} {o : Out} (h : FinT C ow σ H Q s' o) : FinT C ow' σ H' Q s' o := by
  cases o with
  | ok r =>
    obtain ⟨b, e, h⟩ := h
    exact ⟨b, e, fun ow2 H2 R2 z x2 => h ow2 H2 R2 z (x.trans x2)⟩
  | ex c fs => exact fun ow2 d H2 R2 z x2 e => h ow2 d H2 R2 z (x.trans x2) e
theorem KnT.from {Q : Bool → Hp → Prop} (x : Ext (C.Hid ow) H (C.Hid ow') H') (h : KnT C f ow τ t σ H Q) : KnT C f ow' τ t σ H' Q := by
  obtain ⟨o, s', e, h⟩ := h
  exact ⟨o, s', e, h.from x⟩
theorem tT_mono {Q Q' : Bool → Hp → Prop} (h : tT C f σ H Q) (k : ∀ v H, Q v H → Q' v H) : tT C f σ H Q' := by
  obtain ⟨ow, τ, t, R, h0, o, s', e, h⟩ := h
  refine ⟨ow, τ, t, R, h0, o, s', e, ?_⟩
  cases o with
  | ok r =>
    obtain ⟨b, e, h⟩ := h
    exact ⟨b, e, fun ow' H' R' z x => k b H' (h ow' H' R' z x)⟩
  | ex c fs => exact h
/-- a test whose reading is known as that of its value -/
theorem tT_val {Q : Bool → Hp → Prop} (h : tT C f σ H Q) : tF C f σ H fun x H1 => ∃ b, x = .bl b ∧ Q b H1 := by
  obtain ⟨ow, τ, t, R, h0, o, s', e, h⟩ := h
  refine ⟨ow, τ, t, o, s', R, h0, e, ?_⟩
  cases o with
  | ok r =>
    obtain ⟨b, e, h⟩ := h
    intro ow' v H' R' r' x
    obtain ⟨ow1, R1, z1, r1, x1⟩ := r'.hold R'
    exact ⟨b, (r1.peek R1 e).bl, h ow1 H' R1 z1 (x.trans x1)⟩
  | ex c fs => exact h
theorem et_val (he : PE X e (tF C f)) (hw : ∀ whole, isTrue e X.env whole = (do let v ← whole; standAt e.pos; holding [v] (truthy v)) := by intro _; rfl) : PT X e (tT C f) :=
  ⟨fun pins s σ H Q I h => (pt_val he hw).run pins s σ H Q I (tT_val h)⟩
theorem et_cmp {op : CmpOp} {o : D → D → Option (D × Bool)} (ho : OpD Z X (compareOp op) o) (ha : PE X a (tF C f)) (hb : PE X b (tF C g)) (hm : behindInMarks op b = false) : PT X (.Compare a [op] [b] pos) (tT C (binF o f g)) :=
  ⟨fun pins s σ H Q I h => (pt_cmpR ho ha hb hm).run pins s σ H Q I (tOp_of (tT_val h))⟩

/-! ### and, or, not -/
/-- what goes on by a truth value -/
def branchF {T : Type} (f g h : EF T) : EF T := bindF f fun r => fun s => match peek s.1 (hold r) with
  | some (.bl true) => g s
  | some (.bl false) => h s
  | _ => none
def andF {T : Type} (f g : EF T) : EF T := branchF f g (conF (.bl false))
def orF {T : Type} (f g : EF T) : EF T := branchF f (conF (.bl true)) g
def notF {T : Type} (f : EF T) : EF T := branchF f (conF (.bl false)) (conF (.bl true))
theorem branch_tF {Q : VK} (h0 : tF C (branchF f g h) σ H Q) : tF C f σ H fun x H1 => ∃ b, x = .bl b ∧ if b = true then tF C g σ H1 Q else tF C h σ H1 Q := by
  obtain ⟨ow, τ, t, R, z, k⟩ := h0.at_
  refine tF_mono (k.bind R z) fun x H1 ⟨ow1, τ1, t1, r, R1, r1, k1, _⟩ => ?_
  obtain ⟨ow2, R2, z2, r2, x2⟩ := r1.hold R1
  obtain ⟨o, s', e, k2⟩ := k1.from x2
  simp only at e
  split at e
  · rename_i p
    exact ⟨true, (r2.peek R2 p).bl, by rw [if_pos rfl]; exact Kn.tF ⟨o, s', e, k2⟩ R2 z2⟩
  · rename_i p
    exact ⟨false, (r2.peek R2 p).bl, by rw [if_neg (by decide)]; exact Kn.tF ⟨o, s', e, k2⟩ R2 z2⟩
  · cases e
/-- behind a test: what goes on by it, as a test -/
theorem branch_tT {Q : Bool → Hp → Prop} (h0 : tT C (branchF f g h) σ H Q) : tT C f σ H fun b H1 => if b = true then tT C g σ H1 Q else tT C h σ H1 Q := by
  obtain ⟨ow, τ, t, R, z, o, s', e, k⟩ := h0
  unfold branchF bindF at e
  cases q : f (τ, t) with
  | none => rw [q] at e; cases e
  | some w =>
    obtain ⟨o1, s1⟩ := w
    rw [q] at e
    cases o1 with
    | ex c fs =>
      cases e
      exact ⟨ow, τ, t, R, z, _, _, q, k⟩
    | ok r =>
      simp only at e
      split at e
      · rename_i p
        exact ⟨ow, τ, t, R, z, _, _, q, true, p, fun ow1 H1 R1 z1 x1 => by dsimp only; rw [if_pos rfl]; exact ⟨ow1, s1.1, s1.2, R1, z1, o, s', e, k.from x1⟩⟩
      · rename_i p
        exact ⟨ow, τ, t, R, z, _, _, q, false, p, fun ow1 H1 R1 z1 x1 => by dsimp only; rw [if_neg (by decide)]; exact ⟨ow1, s1.1, s1.2, R1, z1, o, s', e, k.from x1⟩⟩
      · cases e
theorem con_tF {d : D} {v : V} {Q : VK} (h : tF C (conF d) σ H Q) (hd : ∀ O H, Den Z O H v d) : Q v H := by
  obtain ⟨ow, τ, t, o, s', R, h0, e, h⟩ := h
  cases e
  exact h ow v H R ⟨h0, hd _ _⟩ .refl
theorem con_tT {b : Bool} {Q : Bool → Hp → Prop} (h : tT C (conF (.bl b)) σ H Q) : Q b H := by
  obtain ⟨ow, τ, t, R, h0, o, s', e, h⟩ := h
  cases e
  obtain ⟨b', e, h⟩ := h
  cases e
  exact h ow H R h0 .refl
theorem ev_one {op : BoolOp} (h : PE X a (tF C f)) : PE X (.BoolOp op [a] pos) (tF C f) := pe_one h
theorem ev_and (ha : PE X a (tF C f)) (hb : PE X (.BoolOp .And (b :: rest) pos) (tF C g)) : PE X (.BoolOp .And (a :: b :: rest) pos) (tF C (andF f g)) :=
  ⟨fun pins s σ H Q I h => (pe_and ha hb).run pins s σ H Q I (tF_mono (branch_tF h) fun x H1 ⟨b, e, k⟩ => ⟨b, e, by
    cases b with
    | true => exact k
    | false => exact con_tF k fun _ _ => .bl false⟩)⟩
theorem ev_or (ha : PE X a (tF C f)) (hb : PE X (.BoolOp .Or (b :: rest) pos) (tF C g)) : PE X (.BoolOp .Or (a :: b :: rest) pos) (tF C (orF f g)) :=
  ⟨fun pins s σ H Q I h => (pe_or ha hb).run pins s σ H Q I (tF_mono (branch_tF h) fun x H1 ⟨b, e, k⟩ => ⟨b, e, by
    cases b with
    | true => exact con_tF k fun _ _ => .bl true
    | false => exact k⟩)⟩
theorem ev_not (ha : PE X a (tF C f)) : PE X (.UnaryOp .Not a pos) (tF C (notF f)) :=
  ⟨fun pins s σ H Q I h => (pe_not ha).run pins s σ H Q I (tF_mono (branch_tF h) fun x H1 ⟨b, e, k⟩ => ⟨b, e, by
    cases b with
    | true => exact con_tF k fun _ _ => .bl false
    | false => exact con_tF k fun _ _ => .bl true⟩)⟩
theorem ew_and1 (ha : PT X a (tT C f)) : PW X (.BoolOp .And [a] pos) (tT C f) := pw_and1 ha
theorem ew_or1 (ha : PT X a (tT C f)) : PW X (.BoolOp .Or [a] pos) (tT C f) := pw_or1 ha
theorem ew_and (ha : PT X a (tT C f)) (hb : PW X (.BoolOp .And (b :: rest) pos) (tT C g)) : PW X (.BoolOp .And (a :: b :: rest) pos) (tT C (andF f g)) :=
  ⟨fun wh pins s σ H Q I h => (pw_and ha hb).run wh pins s σ H Q I (tT_mono (branch_tT h) fun b H1 k => by
    cases b with
    | true => exact k
    | false => exact con_tT k)⟩
theorem ew_or (ha : PT X a (tT C f)) (hb : PW X (.BoolOp .Or (b :: rest) pos) (tT C g)) : PW X (.BoolOp .Or (a :: b :: rest) pos) (tT C (orF f g)) :=
  ⟨fun wh pins s σ H Q I h => (pw_or ha hb).run wh pins s σ H Q I (tT_mono (branch_tT h) fun b H1 k => by
    cases b with
    | true => exact con_tT k
    | false => exact k)⟩
theorem et_not (ha : PT X a (tT C f)) : PT X (.UnaryOp .Not a pos) (tT C (notF f)) :=
  ⟨fun pins s σ H Q I h => (pt_not ha).run pins s σ H Q I (tT_mono (branch_tT h) fun b H1 k => by
    cases b with
    | true => exact con_tT k
    | false => exact con_tT k)⟩
theorem ev_if (hc : PT X c (tT C f)) (ha : PE X a (tF C g)) (hb : PE X b (tF C h)) : PE X (.IfExp c a b pos) (tF C (branchF f g h)) :=
  ⟨fun pins s σ H Q I q => (pe_ifExp hc ha hb).run pins s σ H Q I (by
    obtain ⟨ow, τ, t, R, z, o, s', e, k⟩ := q.at_
    unfold branchF bindF at e
    cases q : f (τ, t) with
    | none => rw [q] at e; cases e
    | some w =>
      obtain ⟨o1, s1⟩ := w
      rw [q] at e
      cases o1 with
      | ex c fs =>
        cases e
        exact ⟨ow, τ, t, R, z, _, _, q, k⟩
      | ok r =>
        simp only at e
        split at e
        · rename_i p
          exact ⟨ow, τ, t, R, z, _, _, q, true, p, fun ow1 H1 R1 z1 x1 => by dsimp only; rw [if_pos rfl]; exact Kn.tF ⟨o, s', e, k.from x1⟩ R1 z1⟩
        · rename_i p
          exact ⟨ow, τ, t, R, z, _, _, q, false, p, fun ow1 H1 R1 z1 x1 => by dsimp only; rw [if_neg (by decide)]; exact Kn.tF ⟨o, s', e, k.from x1⟩ R1 z1⟩
        · cases e)⟩

/-! ### chains -/
def chainF {T : Type} (op op' : D → D → Option (D × Bool)) (f g h : EF T) : EF T := bindF f fun ra => bindF g fun rb => fun s => match peek s.1 (hold ra), peek s.1 (hold rb) with
  | some x, some y => match op x y with
    | some (.bl true, false) => bindF h (fun rc => doneF fun τ => match peek τ (hold rb), peek τ (hold rc) with
      | some y, some z => op' y z
      | _, _ => none) s
    | some (.bl false, false) => some (.ok (.d (.bl false)), s)
    | _ => none
  | _, _ => none
theorem chain_of {op op' : D → D → Option (D × Bool)} {Q : VK} (q : tF C (chainF op op' f g h) σ H Q) : tChain (rD2 Z op) (rD2 Z op') (tF C f) (tF C g) (tF C h) σ H Q := by
  obtain ⟨ow, τ, t, R, z, k⟩ := q.at_
  refine tF_mono (k.bind R z) fun x H1 ⟨ow1, τ1, t1, ra, R1, r1, h1, _⟩ => ?_
  obtain ⟨ow1', R1', z1, r1', x1⟩ := r1.hold R1
  refine tF_mono ((h1.from x1).bind R1' z1) fun y H2 ⟨ow2, τ2, t2, rb, R2, r2, h2, x2⟩ => ?_
  obtain ⟨ow3, R3, z3, r3, x3⟩ := r2.hold R2
  obtain ⟨o, s', e, k2⟩ := h2.from x3
  simp only at e
  split at e
  · rename_i dx dy pa pb
    split at e
    · rename_i p
      refine ⟨_, dx, dy, _, fun p hp => R3.nohid hp, r1'.later R3 (x2.trans x3) pa, r3.peek R3 pb, p, fun v H3 gt => ⟨true, (Shows.den gt.2).bl, ?_⟩⟩
      have x4 : Ext (C.Hid ow3) H2 (C.Hid ow3) H3 := gt.1.ext
      have R4 := R3.grown gt.1
      have kk : Kn C (bindF h (fun rc => doneF fun τ => match peek τ (hold rb), peek τ (hold rc) with
        | some y, some z => op' y z
        | _, _ => none)) ow3 τ2 t2 σ H3 Q := Kn.from (H := H2) x4 ⟨o, s', e, k2⟩
      rw [if_pos rfl]
      refine tF_mono (kk.bind R4 z3) fun w H4 ⟨ow5, τ5, t5, rc, R5, r5, h5, x5⟩ => ?_
      obtain ⟨ow6, R6, z6, r6, x6⟩ := r5.hold R5
      obtain ⟨zz, e6, q6⟩ := (h5.from x6).done R6 z6
      split at e6
      · rename_i dy' dz' p1 p2
        exact ⟨_, dy', dz', zz, fun p hp => R6.nohid hp, r3.later R6 ((x4.trans x5).trans x6) (by cases rb <;> exact p1), r6.peek R6 p2, e6, q6⟩
      · cases e6
    · rename_i p
      cases e
      refine ⟨_, dx, dy, _, fun p hp => R3.nohid hp, r1'.later R3 (x2.trans x3) pa, r3.peek R3 pb, p, fun v H3 gt => ⟨false, (Shows.den gt.2).bl, ?_⟩⟩
      rw [if_neg (by decide)]
      exact k2 ow3 _ H3 (R3.grown gt.1) ⟨z3, .bl false⟩ gt.1.ext
    · cases e
  · cases e
theorem ev_chain {o o' : CmpOp} {op op' : D → D → Option (D × Bool)} (ho : OpD Z X (compareOp o) op) (ho' : OpD Z X (compareOp o') op') (ha : PE X a (tF C f)) (hb : PE X b (tF C g)) (hc : PE X c (tF C h))
    (hm : lastMarks [o, o'] [b, c] = false := by with_unfolding_all rfl) : PE X (.Compare a [o, o'] [b, c] pos) (tF C (chainF op op' f g h)) :=
  ⟨fun pins s σ H Q I q => (pe_chain ho ho' ha hb hc hm).run pins s σ H Q I (chain_of q)⟩
theorem et_chain {o o' : CmpOp} {op op' : D → D → Option (D × Bool)} (ho : OpD Z X (compareOp o) op) (ho' : OpD Z X (compareOp o') op') (ha : PE X a (tF C f)) (hb : PE X b (tF C g)) (hc : PE X c (tF C h))
    (hm : lastMarks [o, o'] [b, c] = false := by with_unfolding_all rfl) : PT X (.Compare a [o, o'] [b, c] pos) (tT C (chainF op op' f g h)) :=
  ⟨fun pins s σ H Q I q => (pt_chain ho ho' ha hb hc hm).run pins s σ H Q I (chain_of (tT_val q))⟩
end
end FD

/-! F6: statements: blocks, assignments to names and tuples of names, if, return, while. -/
namespace FD
open PySem PySem.Spec PyProof.Rows L2

/-- a statement's end -/
inductive SOut where
  | nx | rt (r : Res) | bk | ct | ex (c : Str) (fs : List (Str × D))
abbrev SF (T : Type) := Sg T → Option (SOut × Sg T)
def FinS {Z : Wd} (C : Fx Z) (ow : Nat → Option Addr) (H : Hp) (E : Ends) (s' : Sg Z.T) : SOut → Prop
  | .nx => ∀ ow' σ' H', C.Rel ow' s'.1 s'.2 σ' H' → ow' 0 = none → Ext (C.Hid ow) H (C.Hid ow') H' → E.nx σ' H'
  | .bk => ∀ ow' σ' H', C.Rel ow' s'.1 s'.2 σ' H' → ow' 0 = none → Ext (C.Hid ow) H (C.Hid ow') H' → E.bk σ' H'
  | .ct => ∀ ow' σ' H', C.Rel ow' s'.1 s'.2 σ' H' → ow' 0 = none → Ext (C.Hid ow) H (C.Hid ow') H' → E.ct σ' H'
  | .rt r => ∀ ow' σ' v H', C.Rel ow' s'.1 s'.2 σ' H' → ResOk C ow' s'.1 σ' H' v r → Ext (C.Hid ow) H (C.Hid ow') H' → E.rt v H'
  | .ex c fs => ∀ ow' σ' d H', C.Rel ow' s'.1 s'.2 σ' H' → ow' 0 = none → Ext (C.Hid ow) H (C.Hid ow') H' → ExOk Z (C.Hid ow') H' d fs → C.W (.ref (Z.ca c)) d σ' H'
def KnS {Z : Wd} (C : Fx Z) (f : SF Z.T) (ow : Nat → Option Addr) (τ : List Sl) (t : Z.T) (H : Hp) (E : Ends) : Prop := ∃ o s', f (τ, t) = some (o, s') ∧ FinS C ow H E s' o
def tS {Z : Wd} (C : Fx Z) (f : SF Z.T) : TS := fun E σ H => ∃ ow τ t, C.Rel ow τ t σ H ∧ ow 0 = none ∧ KnS C f ow τ t H E

def seqF {T : Type} (f g : SF T) : SF T := fun s => match f s with
  | some (.nx, s1) => g s1
  | r => r
def nxF {T : Type} : SF T := fun s => some (.nx, s)
def bkF {T : Type} : SF T := fun s => some (.bk, s)
def ctF {T : Type} : SF T := fun s => some (.ct, s)
/-- a statement over an expression -/
def sbind {T : Type} (f : EF T) (k : Res → SF T) : SF T := fun s => match f s with
  | none => none
  | some (.ex c fs, s1) => some (.ex c fs, s1)
  | some (.ok r, s1) => k r s1
def dropF {T : Type} (f : EF T) : SF T := sbind f fun _ s => some (.nx, s)
/-- what a return takes along: an own slot's object is no one's behind it -/
def retF {T : Type} (f : EF T) : SF T := sbind f fun r s => match r with
  | .s i => match s.1[i]? with
    | some (.v d) => some (.rt (.d d), s)
    | some (.o d) => some (.rt (.f d), (s.1.set i .no, s.2))
    | _ => none
  | r => some (.rt r, s)
def retNF {T : Type} : SF T := fun s => some (.rt (.d .non), s)
def ifF {T : Type} (f : EF T) (g h : SF T) : SF T := sbind f fun r => fun s => match peek s.1 (hold r) with
  | some (.bl true) => g s
  | some (.bl false) => h s
  | _ => none
/-- a result into slot i -/
def storeAt (i : Nat) (τ : List Sl) : Res → Option (List Sl)
  | .f d => some (τ.set i (.o d))
  | r => match give τ r with
    | none => none
    | some (d, τ1) => some (τ1.set i (.v d))
def setF {T : Type} (i : Nat) (f : EF T) : SF T := sbind f fun r s => match storeAt i s.1 r with
  | none => none
  | some τ => some (.nx, (τ, s.2))

section
variable {Z : Wd} {C : Fx Z} {X : Cx} {ow ow' : Nat → Option Addr} {τ : List Sl} {t : Z.T} {σ : L2.St} {H H' : Hp} {E : Ends}
theorem FinS.from (x : Ext (C.Hid ow) H (C.Hid ow') H') {s' : Sg Z.T} {o : SOut} (h : FinS C ow H E s' o) : FinS C ow' H' E s' o := by
  cases o with
  | nx => exact fun ow2 σ2 H2 R2 z x2 => h ow2 σ2 H2 R2 z (x.trans x2)
  | bk => exact fun ow2 σ2 H2 R2 z x2 => h ow2 σ2 H2 R2 z (x.trans x2)
  | ct => exact fun ow2 σ2 H2 R2 z x2 => h ow2 σ2 H2 R2 z (x.trans x2)
  | rt r => exact fun ow2 σ2 v H2 R2 z x2 => h ow2 σ2 v H2 R2 z (x.trans x2)
  | ex c fs => exact fun ow2 σ2 d H2 R2 z x2 e => h ow2 σ2 d H2 R2 z (x.trans x2) e
theorem KnS.from {f : SF Z.T} (x : Ext (C.Hid ow) H (C.Hid ow') H') (h : KnS C f ow τ t H E) : KnS C f ow' τ t H' E := by
  obtain ⟨o, s', e, h⟩ := h
  exact ⟨o, s', e, h.from x⟩
theorem tS_seq {f g : SF Z.T} (h : tS C (seqF f g) E σ H) : tSeq (tS C f) (tS C g) E σ H := by
  obtain ⟨ow, τ, t, R, z, o, s', e, k⟩ := h
  unfold seqF at e
  cases q : f (τ, t) with
  | none => rw [q] at e; cases e
  | some w =>
    obtain ⟨o1, s1⟩ := w
    rw [q] at e
    refine ⟨ow, τ, t, R, z, o1, s1, q, ?_⟩
    cases o1 with
    | nx => exact fun ow1 σ1 H1 R1 z1 x1 => ⟨ow1, s1.1, s1.2, R1, z1, o, s', e, k.from x1⟩
    | rt r => cases e; exact k
    | bk => cases e; exact k
    | ct => cases e; exact k
    | ex c fs => cases e; exact k
theorem sv_nil : PSs X [] (tS C nxF) := ⟨fun pins s σ H E I h => pss_nil.run pins s σ H E I (by
  obtain ⟨ow, τ, t, R, z, o, s', e, k⟩ := h
  cases e
  exact k ow σ H R z .refl)⟩
theorem sv_one {st : Stmt} {f : SF Z.T} (h : PS X st (tS C f)) : PSs X [st] (tS C f) := pss_one h
theorem sv_cons {st : Stmt} {rest : List Stmt} {f g : SF Z.T} (h1 : PS X st (tS C f)) (h2 : PSs X rest (tS C g)) : PSs X (st :: rest) (tS C (seqF f g)) :=
  ⟨fun pins s σ H E I h => (pss_cons h1 h2).run pins s σ H E I (tS_seq h)⟩
theorem sv_pass {pos : Pos} : PS X (.Pass pos) (tS C nxF) := ⟨fun pins s σ H E I h => ps_pass.run pins s σ H E I (by
  obtain ⟨ow, τ, t, R, z, o, s', e, k⟩ := h
  cases e
  exact k ow σ H R z .refl)⟩
theorem sv_break {pos : Pos} : PS X (.Break pos) (tS C bkF) := ⟨fun pins s σ H E I h => ps_break.run pins s σ H E I (by
  obtain ⟨ow, τ, t, R, z, o, s', e, k⟩ := h
  cases e
  exact k ow σ H R z .refl)⟩
theorem sv_continue {pos : Pos} : PS X (.Continue pos) (tS C ctF) := ⟨fun pins s σ H E I h => ps_continue.run pins s σ H E I (by
  obtain ⟨ow, τ, t, R, z, o, s', e, k⟩ := h
  cases e
  exact k ow σ H R z .refl)⟩
/-- a statement that begins with an expression -/
theorem tS_bind {f : EF Z.T} {k : Res → SF Z.T} (h : tS C (sbind f k) E σ H) : tF C f σ H fun v H1 => ∃ ow1 τ1 t1 r, C.Rel ow1 τ1 t1 σ H1 ∧ ResOk C ow1 τ1 σ H1 v r ∧ KnS C (k r) ow1 τ1 t1 H1 E := by
  obtain ⟨ow, τ, t, R, h0, o, s', e, h⟩ := h
  unfold sbind at e
  cases q : f (τ, t) with
  | none => rw [q] at e; cases e
  | some z =>
    obtain ⟨o1, s1⟩ := z
    rw [q] at e
    cases o1 with
    | ex c fs =>
      cases e
      exact ⟨ow, τ, t, _, _, R, h0, q, fun ow' d H' R' z x e => h ow' σ d H' R' z x e⟩
    | ok r => exact ⟨ow, τ, t, _, _, R, h0, q, fun ow1 v H1 R1 r1 x1 => ⟨ow1, s1.1, s1.2, r, R1, r1, ⟨o, s', e, h.from x1⟩⟩⟩
theorem sv_expr {e : Expr} {f : EF Z.T} {pos : Pos} (he : PE X e (tF C f)) (hs : swapsWith e none pos.line X.env = pure false := by rfl) : PS X (.Expr e pos) (tS C (dropF f)) :=
  ⟨fun pins s σ H E I h => (ps_expr he hs).run pins s σ H E I (tF_mono (tS_bind h) fun v H1 ⟨ow1, τ1, t1, r, R1, r1, k⟩ => by
    obtain ⟨ow2, R2, z2, _, x2⟩ := r1.hold R1
    obtain ⟨o, s', e, k⟩ := k
    cases e
    exact k ow2 σ H1 R2 z2 x2)⟩
/-- own slot i is moved: it is pending -/
def move (ow : Nat → Option Addr) (i j : Nat) : Nat → Option Addr := fun k => if k = j then ow i else if k = i then none else ow k
theorem move_some {ow : Nat → Option Addr} {i j k : Nat} {a : Addr} (h : move ow i j k = some a) : (k = j ∧ ow i = some a) ∨ (k ≠ j ∧ k ≠ i ∧ ow k = some a) := by
  unfold move at h
  split at h
  · exact .inl ⟨by assumption, h⟩
  · split at h
    · cases h
    · exact .inr ⟨by assumption, by assumption, h⟩
theorem hid_move {O₀ : Addr → Prop} {ow : Nat → Option Addr} {i j : Nat} {a : Addr} (h : Hid O₀ (move ow i j) a) : Hid O₀ ow a := by
  rcases h with h | ⟨k, e⟩
  · exact .inl h
  · rcases move_some e with ⟨_, e⟩ | ⟨_, _, e⟩
    · exact .inr ⟨i, e⟩
    · exact .inr ⟨k, e⟩
theorem ext_move {O₀ : Addr → Prop} {ow : Nat → Option Addr} {i j : Nat} {H : Hp} : Ext (Hid O₀ ow) H (Hid O₀ (move ow i j)) H := ⟨fun _ _ e _ => e, fun _ h => .inl (hid_move h)⟩
theorem move_inj {ow : Nat → Option Addr} {i j : Nat} (hij : i ≠ j) (inj : ∀ i j a, ow i = some a → ow j = some a → i = j) : ∀ k l a, move ow i j k = some a → move ow i j l = some a → k = l := by
  intro k l a h1 h2
  rcases move_some h1 with ⟨e1, e2⟩ | ⟨n1, n2, e2⟩
  · rcases move_some h2 with ⟨e3, _⟩ | ⟨_, n4, e4⟩
    · rw [e1, e3]
    · exact absurd (inj _ _ _ e4 e2) n4
  · rcases move_some h2 with ⟨_, e4⟩ | ⟨_, _, e4⟩
    · exact absurd (inj _ _ _ e2 e4) n2
    · exact inj _ _ _ e2 e4
theorem Rel.take {i : Nat} {d : D} (R : C.Rel ow τ t σ H) (e : τ[i]? = some (.o d)) : C.Rel (move ow (i + 1) 0) (τ.set i .no) t σ H where
  on := R.on
  hid := R.hid
  hidT := R.hidT
  grow := R.grow
  len := by rw [List.length_set]; exact R.len
  slot := fun j s h => by
    by_cases q : j = i
    · subst q
      have hl : j < τ.length := (List.getElem?_eq_some_iff.mp e).1
      rw [List.getElem?_set_self hl] at h
      cases h
      trivial
    · rw [List.getElem?_set_ne (Ne.symm q)] at h
      exact (R.slot j s h).ext ext_move fun a h => ⟨by
        unfold move
        rw [if_neg (by omega), if_neg (by omega)]
        exact h, rfl⟩
  inj := move_inj (by omega) R.inj
  new := fun k a h => by
    rcases move_some h with ⟨_, e⟩ | ⟨_, _, e⟩
    · exact R.new _ a e
    · exact R.new _ a e
theorem sv_ret {e : Expr} {f : EF Z.T} {pos : Pos} (he : PE X e (tF C f)) : PS X (.Return (some e) pos) (tS C (retF f)) :=
  ⟨fun pins s σ H E I h => (ps_ret he).run pins s σ H E I (tF_mono (tS_bind h) fun v H1 ⟨ow1, τ1, t1, r, R1, r1, k⟩ => by
    obtain ⟨o, s', e, k⟩ := k
    cases r with
    | d d =>
      cases e
      exact k ow1 σ v H1 R1 r1 .refl
    | f d =>
      cases e
      exact k ow1 σ v H1 R1 r1 .refl
    | s i =>
      obtain ⟨z, r1⟩ := r1
      simp only at e
      split at e
      · rename_i d p
        cases e
        obtain ⟨v', e1, q⟩ := R1.slot i _ p
        rw [r1] at e1
        cases e1
        exact k ow1 σ v H1 R1 ⟨z, q⟩ .refl
      · rename_i d p
        cases e
        obtain ⟨a, o, e1, e2, e3, c⟩ := R1.slot i _ p
        rw [r1] at e2
        cases e2
        refine k (move ow1 (i + 1) 0) σ _ H1 (R1.take p) ⟨a, o, ?_, rfl, e3, c.ext ext_move⟩ ext_move
        unfold move
        rw [if_pos rfl]
        exact e1
      · cases e)⟩
theorem sv_retN {pos : Pos} : PS X (.Return none pos) (tS C retNF) := ⟨fun pins s σ H E I h => ps_retN.run pins s σ H E I (by
  obtain ⟨ow, τ, t, R, z, o, s', e, k⟩ := h
  cases e
  exact k ow σ .non H R ⟨z, .non⟩ .refl)⟩
theorem tS_if {f : EF Z.T} {g h : SF Z.T} (q : tS C (ifF f g h) E σ H) : tT C f σ H fun b H1 => if b = true then tS C g E σ H1 else tS C h E σ H1 := by
  obtain ⟨ow, τ, t, R, z, o, s', e, k⟩ := q
  unfold ifF sbind at e
  cases q : f (τ, t) with
  | none => rw [q] at e; cases e
  | some w =>
    obtain ⟨o1, s1⟩ := w
    rw [q] at e
    cases o1 with
    | ex c fs =>
      cases e
      exact ⟨ow, τ, t, R, z, _, _, q, fun ow' d H' R' z x e => k ow' σ d H' R' z x e⟩
    | ok r =>
      simp only at e
      split at e
      · rename_i p
        exact ⟨ow, τ, t, R, z, _, _, q, true, p, fun ow1 H1 R1 z1 x1 => by dsimp only; rw [if_pos rfl]; exact ⟨ow1, s1.1, s1.2, R1, z1, o, s', e, k.from x1⟩⟩
      · rename_i p
        exact ⟨ow, τ, t, R, z, _, _, q, false, p, fun ow1 H1 R1 z1 x1 => by dsimp only; rw [if_neg (by decide)]; exact ⟨ow1, s1.1, s1.2, R1, z1, o, s', e, k.from x1⟩⟩
      · cases e
theorem sv_if {c : Expr} {a b : List Stmt} {f : EF Z.T} {g h : SF Z.T} {pos : Pos} (hc : PT X c (tT C f)) (ha : PSs X a (tS C g)) (hb : PSs X b (tS C h)) : PS X (.If c a b pos) (tS C (ifF f g h)) :=
  ⟨fun pins s σ H E I q => (ps_if hc ha hb).run pins s σ H E I (tS_if q)⟩

/-! ### stores to names -/
theorem Rel.set {i : Nat} {v : V} {d : D} (R : C.Rel ow τ t σ H) (h : Den Z (C.Hid ow) H v d) : C.Rel (drop ow (i + 1)) (τ.set i (.v d)) t (σ.set i (some v)) H where
  on := R.on
  hid := R.hid
  hidT := R.hidT
  grow := R.grow
  len := by rw [List.length_set, List.length_set]; exact R.len
  slot := fun j s q => by
    by_cases e : j = i
    · subst e
      have hl : j < τ.length := by
        have := (List.getElem?_eq_some_iff.mp q).1
        rwa [List.length_set] at this
      rw [List.getElem?_set_self hl] at q
      cases q
      exact ⟨v, List.getElem?_set_self (by rw [← R.len]; exact hl), h.ext ext_drop⟩
    · rw [List.getElem?_set_ne (Ne.symm e)] at q
      have := (R.slot j s q).ext (ow' := drop ow (i + 1)) (ext_drop (i := i + 1)) fun a h => ⟨by rw [drop_ne (by omega)]; exact h, rfl⟩
      cases s with
      | no => trivial
      | x => exact ⟨(List.getElem?_set_ne (Ne.symm (by assumption))).trans this.1, this.2⟩
      | v d => 
        obtain ⟨v', e1, e2⟩ := this
        exact ⟨v', by rw [List.getElem?_set_ne (Ne.symm e)]; exact e1, e2⟩
      | o d =>
        obtain ⟨a, o, e1, e2, e3, c⟩ := this
        exact ⟨a, o, e1, by rw [List.getElem?_set_ne (Ne.symm e)]; exact e2, e3, c⟩
  inj := fun i j a h1 h2 => R.inj i j a (drop_some h1).1 (drop_some h2).1
  new := fun i a h => R.new i a (drop_some h).1
theorem Rel.setOwn {i : Nat} {a : Addr} {o : HO} {d : D} (R : C.Rel ow τ t σ H) (h0 : ow 0 = some a) (e : H a = some o) (c : Cont Z (C.Hid ow) H o d) : C.Rel (move ow 0 (i + 1)) (τ.set i (.o d)) t (σ.set i (some (.ref a))) H where
  on := R.on
  hid := R.hid
  hidT := R.hidT
  grow := R.grow
  len := by rw [List.length_set, List.length_set]; exact R.len
  slot := fun j s q => by
    by_cases e2 : j = i
    · subst e2
      have hl : j < τ.length := by
        have := (List.getElem?_eq_some_iff.mp q).1
        rwa [List.length_set] at this
      rw [List.getElem?_set_self hl] at q
      cases q
      refine ⟨a, o, ?_, List.getElem?_set_self (by rw [← R.len]; exact hl), e, c.ext ext_move⟩
      unfold move
      rw [if_pos rfl]
      exact h0
    · rw [List.getElem?_set_ne (Ne.symm e2)] at q
      have := (R.slot j s q).ext (ow' := move ow 0 (i + 1)) (ext_move (i := 0) (j := i + 1)) fun a h => ⟨by
        unfold move
        rw [if_neg (by omega), if_neg (by omega)]
        exact h, rfl⟩
      cases s with
      | no => trivial
      | x => exact ⟨(List.getElem?_set_ne (Ne.symm (by assumption))).trans this.1, this.2⟩
      | v d => 
        obtain ⟨v', e1, e3⟩ := this
        exact ⟨v', by rw [List.getElem?_set_ne (Ne.symm e2)]; exact e1, e3⟩
      | o d =>
        obtain ⟨a, o, e1, e3, e4, c⟩ := this
        exact ⟨a, o, e1, by rw [List.getElem?_set_ne (Ne.symm e2)]; exact e3, e4, c⟩
  inj := move_inj (by omega) R.inj
  new := fun k b h => by
    rcases move_some h with ⟨_, e⟩ | ⟨_, _, e⟩
    · exact R.new _ b e
    · exact R.new _ b e
theorem drop_zero {i : Nat} (h : ow 0 = none) : drop ow (i + 1) 0 = none := by rw [drop_ne (by omega)]; exact h
theorem Rel.store {i : Nat} {v : V} {r : Res} {τ' : List Sl} (R : C.Rel ow τ t σ H) (h : ResOk C ow τ σ H v r) (e : storeAt i τ r = some τ') :
    ∃ ow', C.Rel ow' τ' t (σ.set i (some v)) H ∧ ow' 0 = none ∧ Ext (C.Hid ow) H (C.Hid ow') H := by
  have go : ∀ r : Res, ResOk C ow τ σ H v r → (match give τ r with | none => none | some (d, τ1) => some (τ1.set i (.v d))) = some τ' → ∃ ow', C.Rel ow' τ' t (σ.set i (some v)) H ∧ ow' 0 = none ∧ Ext (C.Hid ow) H (C.Hid ow') H := fun r h e => by
    split at e
    · cases e
    · rename_i d τ1 p
      cases e
      obtain ⟨ow1, R1, z1, d1, x1⟩ := h.give R p
      exact ⟨_, R1.set d1, drop_zero z1, x1.trans ext_drop⟩
  cases r with
  | d d => exact go _ h e
  | s j => exact go _ h e
  | f d =>
    cases e
    obtain ⟨a, o, h1, rfl, h3, c⟩ := h
    refine ⟨_, R.setOwn h1 h3 c, ?_, ext_move⟩
    unfold move
    rw [if_neg (by omega), if_pos rfl]
theorem tS_set {i : Nat} {f : EF Z.T} (h : tS C (setF i f) E σ H) : tAsg (tF C f) (gName i) E σ H :=
  tF_mono (tS_bind h) fun v H1 ⟨ow1, τ1, t1, r, R1, r1, k⟩ => by
    obtain ⟨o, s', e, k⟩ := k
    simp only at e
    split at e
    · cases e
    · rename_i τ2 p
      cases e
      obtain ⟨ow2, R2, z2, x2⟩ := R1.store r1 p
      exact k ow2 _ H1 R2 z2 x2
theorem sv_set {i : Nat} {x : Str} {e : Expr} {f : EF Z.T} {pos pos' : Pos} (hN : X.N.Nodup) (hi : X.N[i]? = some x) (hx : Loc X.env.scope x) (he : PE X e (tF C f)) (hs : swapsWith e (some (.Name x pos')) pos.line X.env = pure false := by rfl)
    (hf : X.fn x = true ∨ X.env.scope.names.lookup x = some .local := by first | exact .inl rfl | exact .inr rfl) : PS X (.Assign [.Name x pos'] e pos) (tS C (setF i f)) :=
  ⟨fun pins s σ H E I h => (ps_set hN hi hx he hs hf).run pins s σ H E I (tS_set h)⟩
end
end FD

/-! F7: targets, loops, comprehensions. -/
namespace FD
open PySem PySem.Spec PyProof.Rows L2

/-! ### targets -/
abbrev GF := D → List Sl → Option (List Sl)
abbrev GFs := List D → List Sl → Option (List Sl)
/-- slots outside S are as they were -/
def Off (S : List Nat) (σ σ' : L2.St) : Prop := σ'.length = σ.length ∧ ∀ j, j ∉ S → σ'[j]? = σ[j]?
theorem Off.refl {S : List Nat} {σ : L2.St} : Off S σ σ := ⟨rfl, fun _ _ => rfl⟩
theorem Off.trans {S : List Nat} {σ σ' σ'' : L2.St} (a : Off S σ σ') (b : Off S σ' σ'') : Off S σ σ'' := ⟨b.1.trans a.1, fun j h => (b.2 j h).trans (a.2 j h)⟩
def tG {Z : Wd} (C : Fx Z) (S : List Nat) (g : GF) : TG := fun v σ H Q => ∃ ow τ t d τ', C.Rel ow τ t σ H ∧ ow 0 = none ∧ Den Z (C.Hid ow) H v d ∧ g d τ = some τ' ∧
  ∀ ow' σ', C.Rel ow' τ' t σ' H → ow' 0 = none → Ext (C.Hid ow) H (C.Hid ow') H → Off S σ σ' → Q σ' H
def tGs {Z : Wd} (C : Fx Z) (S : List Nat) (g : GFs) : TGs := fun vs σ H Q => ∃ ow τ t ds τ', C.Rel ow τ t σ H ∧ ow 0 = none ∧ DenA Z (C.Hid ow) H vs ds ∧ g ds τ = some τ' ∧
  ∀ ow' σ', C.Rel ow' τ' t σ' H → ow' 0 = none → Ext (C.Hid ow) H (C.Hid ow') H → Off S σ σ' → Q σ' H
def nameG (i : Nat) : GF := fun d τ => some (τ.set i (.v d))
def nilG : GFs := fun ds τ => match ds with
  | [] => some τ
  | _ => none
def consG (g : GF) (h : GFs) : GFs := fun ds τ => match ds with
  | [] => none
  | d :: ds => match g d τ with
    | none => none
    | some τ1 => h ds τ1
def tupG (n : Nat) (h : GFs) : GF := fun d τ => match d with
  | .tup ds => if ds.length = n then h ds τ else none
  | _ => none
section
variable {Z : Wd} {C : Fx Z} {X : Cx} {ow : Nat → Option Addr} {τ : List Sl} {t : Z.T} {σ : L2.St} {H H' : Hp} {S : List Nat}
theorem off_set {i : Nat} {v : Option V} (h : i ∈ S) : Off S σ (σ.set i v) := ⟨List.length_set, fun j hj => List.getElem?_set_ne (fun e => hj (by rw [← e]; exact h))⟩
theorem gv_name {i : Nat} {x : Str} {pos : Pos} (hN : X.N.Nodup) (hi : X.N[i]? = some x) (hx : Loc X.env.scope x) (hf : X.fn x = true ∨ X.env.scope.names.lookup x = some .local := by first | exact .inl rfl | exact .inr rfl) (hS : i ∈ S := by decide) :
    PG X (.Name x pos) (tG C S (nameG i)) := ⟨fun pins s σ H v u Q I r h => (pg_name hN hi hx hf).run pins s σ H v u Q I r (by
  obtain ⟨ow, τ, t, d, τ', R, z, dn, e, k⟩ := h
  cases e
  exact k _ _ (R.set dn) (drop_zero z) ext_drop (off_set hS))⟩
theorem gv_nil : PGs X [] (tGs C S nilG) := ⟨fun pins s σ H v u Q I r h => pgs_nil.run pins s σ H v u Q I r (by
  obtain ⟨ow, τ, t, d, τ', R, z, dn, e, k⟩ := h
  cases dn with
  | nil =>
    cases e
    exact ⟨rfl, k _ _ R z .refl .refl⟩
  | cons _ _ => cases e)⟩
theorem gv_cons {e : Expr} {es : List Expr} {g : GF} {h : GFs} (h1 : PG X e (tG C S g)) (h2 : PGs X es (tGs C S h)) (hs : (assignEach (e :: es) X.env).map (·.2) = assign e X.env :: (assignEach es X.env).map (·.2) := by rfl) : PGs X (e :: es) (tGs C S (consG g h)) := ⟨fun pins s σ H v u Q I r q => (pgs_cons h1 h2 hs).run pins s σ H v u Q I r (by
  obtain ⟨ow, τ, t, d, τ', R, z, dn, e, k⟩ := q
  cases dn with
  | nil => cases e
  | cons d1 d2 =>
    unfold consG at e
    simp only at e
    split at e
    · cases e
    · rename_i τ1 p
      exact ⟨_, _, rfl, ow, τ, t, _, τ1, R, z, d1, p, fun ow1 σ1 R1 z1 x1 f1 => ⟨ow1, τ1, t, _, τ', R1, z1, d2.ext x1, e, fun ow2 σ2 R2 z2 x2 f2 => k ow2 σ2 R2 z2 (x1.trans x2) (f1.trans f2)⟩⟩)⟩
theorem gv_tup {es : List Expr} {k n : Nat} {h : GFs} {pos : Pos} (hc : X.calm = true) (q : PGs X es (tGs C S h)) (hn : (assignEach es X.env).length = n := by rfl) (hst : (assignEach es X.env).findIdx? (·.1) = none := by rfl) : PG X (.Tuple es k pos) (tG C S (tupG n h)) := ⟨fun pins s σ H v u Q I r w => (pg_tup (n := n) hc q hn hst).run pins s σ H v u Q I r (by
  obtain ⟨ow, τ, t, d, τ', R, z, dn, e, k⟩ := w
  unfold tupG at e
  split at e
  · split at e
    · rename_i hl
      obtain ⟨a, xs, rfl, h1, c, _⟩ := (Shows.den dn).tup
      exact ⟨a, xs, rfl, SqT.of h1, c.len.trans hl, ow, τ, t, _, τ', R, z, c, e, k⟩
    · cases e
  · cases e)⟩
end

/-! ### what is walked -/
inductive OutI where
  | ok (ds : List D) | ex (c : Str) (fs : List (Str × D))
abbrev IF (T : Type) := Sg T → Option (OutI × Sg T)
/-- a walk that gives the data ds -/
def Walks (Z : Wd) (O : Addr → Prop) (H : Hp) (J : It) (ds : List D) : Prop := ∃ (G : Hp → Prop) (Y : Nat → Hp → V → Hp → Prop), Walk J ds.length G Y ∧ (∀ O' H', Ext O H O' H' → G H') ∧
  ∀ i H1 x H2 O1, i < ds.length → Ext O H O1 H1 → (∀ p, H1 p = none → ¬ O1 p) → Y i H1 x H2 → ∃ d, ds[i]? = some d ∧ Grow H1 H2 ∧ Den Z O1 H2 x d
def FinI {Z : Wd} (C : Fx Z) (ow : Nat → Option Addr) (σ : L2.St) (H : Hp) (R : It → Hp → Prop) (s' : Sg Z.T) : OutI → Prop
  | .ok ds => ∀ ow' J H', C.Rel ow' s'.1 s'.2 σ H' → ow' 0 = none → Ext (C.Hid ow) H (C.Hid ow') H' → Walks Z (C.Hid ow') H' J ds → R J H'
  | .ex c fs => ∀ ow' d H', C.Rel ow' s'.1 s'.2 σ H' → ow' 0 = none → Ext (C.Hid ow) H (C.Hid ow') H' → ExOk Z (C.Hid ow') H' d fs → C.W (.ref (Z.ca c)) d σ H'
def tI {Z : Wd} (C : Fx Z) (f : IF Z.T) : TI := fun σ H R => ∃ ow τ t o s', C.Rel ow τ t σ H ∧ ow 0 = none ∧ f (τ, t) = some (o, s') ∧ FinI C ow σ H R s' o

/-- for .. in ..: the items one after the other -/
def forL {T : Type} (g : GF) (b : SF T) : List D → SF T
  | [] => nxF
  | d :: ds => fun s => match g d s.1 with
    | none => none
    | some τ => match b (τ, s.2) with
      | none => none
      | some (.nx, s1) => forL g b ds s1
      | some (.ct, s1) => forL g b ds s1
      | some (.bk, s1) => some (.nx, s1)
      | some (.rt r, s1) => some (.rt r, s1)
      | some (.ex c fs, s1) => some (.ex c fs, s1)
def forF {T : Type} (it : IF T) (g : GF) (b : SF T) : SF T := fun s => match it s with
  | none => none
  | some (.ex c fs, s1) => some (.ex c fs, s1)
  | some (.ok ds, s1) => forL g b ds s1
section
variable {Z : Wd} {C : Fx Z} {X : Cx} {ow ow1 : Nat → Option Addr} {τ : List Sl} {t : Z.T} {σ : L2.St} {H H1 H' : Hp} {S : List Nat} {E : Ends}
theorem Walks.ext {O O' : Addr → Prop} {J : It} {ds : List D} (w : Walks Z O H J ds) (x : Ext O H O' H') : Walks Z O' H' J ds := by
  obtain ⟨G, Y, w, g, y⟩ := w
  exact ⟨G, Y, w, fun O2 H2 x2 => g O2 H2 (x.trans x2), fun i H1 v H2 O1 hi x1 => y i H1 v H2 O1 hi (x.trans x1)⟩
theorem tS_for {it : IF Z.T} {g : GF} {b : SF Z.T} (h : tS C (forF it g b) E σ H) : tFor (tI C it) (tG C S g) (tS C b) E σ H := by
  obtain ⟨ow, τ, t, R, z, o, s', e, k⟩ := h
  unfold forF at e
  cases q : it (τ, t) with
  | none => rw [q] at e; cases e
  | some w =>
    obtain ⟨o1, s1⟩ := w
    rw [q] at e
    refine ⟨ow, τ, t, o1, s1, R, z, q, ?_⟩
    cases o1 with
    | ex c fs =>
      cases e
      exact fun ow' d H' R' z x e => k ow' σ d H' R' z x e
    | ok ds =>
      intro ow1 J H1 R1 z1 x1 w1
      simp only at e
      obtain ⟨G, Y, wk, hG, hY⟩ := w1
      refine for_it wk (fun i σ2 H2 => ∃ ow2 τ2 t2, C.Rel ow2 τ2 t2 σ2 H2 ∧ ow2 0 = none ∧ Ext (C.Hid ow1) H1 (C.Hid ow2) H2 ∧ KnS C (forL g b (ds.drop i)) ow2 τ2 t2 H2 { nx := E.nx, rt := E.rt, bk := fun _ _ => False, ct := fun _ _ => False }) ?_ ?_ ?_ ?_
      · refine ⟨ow1, s1.1, s1.2, R1, z1, .refl, o, s', e, ?_⟩
        have k1 := k.from x1
        -- a for of its own breaks nothing
        have noB : ∀ (ds : List D) (s : Sg Z.T) (o : SOut) (s' : Sg Z.T), forL g b ds s = some (o, s') → o ≠ .bk ∧ o ≠ .ct := by
          intro ds
          induction ds with
          | nil =>
            intro s o s' e
            cases e
            exact ⟨nofun, nofun⟩
          | cons d ds ih =>
            intro s o s' e
            unfold forL at e
            split at e
            · cases e
            · split at e
              · cases e
              · exact ih _ _ _ e
              · exact ih _ _ _ e
              · cases e
                exact ⟨nofun, nofun⟩
              · cases e
                exact ⟨nofun, nofun⟩
              · cases e
                exact ⟨nofun, nofun⟩
        have nb := noB _ _ _ _ e
        cases o with
        | nx => exact k1
        | rt r => exact k1
        | bk => exact absurd rfl nb.1
        | ct => exact absurd rfl nb.2
        | ex c fs => exact k1
      · rintro i σ2 H2 hi ⟨ow2, τ2, t2, R2, z2, x2, _⟩
        exact hG _ _ x2
      · rintro i x σ2 H2 H3 hi ⟨ow2, τ2, t2, R2, z2, x2, o2, s2, e2, k2⟩ y
        obtain ⟨d, hd, gr, dn⟩ := hY i H2 x H3 _ hi x2 (fun p hp => R2.nohid hp) y
        have hdr : ds.drop i = d :: ds.drop (i + 1) := by
          rw [List.drop_eq_getElem_cons hi]
          have : ds[i] = d := by
            have := List.getElem?_eq_getElem hi
            rw [hd] at this
            exact (Option.some.inj this).symm
          rw [this]
        rw [hdr] at e2
        unfold forL at e2
        simp only at e2
        split at e2
        · cases e2
        · rename_i τ3 p3
          refine ⟨ow2, τ2, t2, d, τ3, R2.grown gr, z2, dn, p3, fun ow3 σ3 R3 z3 x3 _ => ?_⟩
          have x23 := (gr.ext (O := C.Hid ow2)).trans x3
          split at e2
          · cases e2
          · rename_i s4 p4
            refine ⟨ow3, τ3, t2, R3, z3, .nx, s4, p4, fun ow4 σ4 H4 R4 z4 x4 => ?_⟩
            exact ⟨ow4, s4.1, s4.2, R4, z4, (x2.trans x23).trans x4, o2, s2, e2, k2.from (x23.trans x4)⟩
          · rename_i s4 p4
            refine ⟨ow3, τ3, t2, R3, z3, .ct, s4, p4, fun ow4 σ4 H4 R4 z4 x4 => ?_⟩
            exact ⟨ow4, s4.1, s4.2, R4, z4, (x2.trans x23).trans x4, o2, s2, e2, k2.from (x23.trans x4)⟩
          · rename_i s4 p4
            cases e2
            refine ⟨ow3, τ3, t2, R3, z3, .bk, _, p4, fun ow4 σ4 H4 R4 z4 x4 => ?_⟩
            exact k2 ow4 σ4 H4 R4 z4 (x23.trans x4)
          · rename_i r s4 p4
            cases e2
            exact ⟨ow3, τ3, t2, R3, z3, .rt r, _, p4, fun ow4 σ4 v H4 R4 r4 x4 => k2 ow4 σ4 v H4 R4 r4 (x23.trans x4)⟩
          · rename_i c fs s4 p4
            cases e2
            exact ⟨ow3, τ3, t2, R3, z3, .ex c fs, _, p4, fun ow4 σ4 d4 H4 R4 z4 x4 e4 => k2 ow4 σ4 d4 H4 R4 z4 (x23.trans x4) e4⟩
      · rintro σ2 H2 ⟨ow2, τ2, t2, R2, z2, x2, o2, s2, e2, k2⟩
        rw [List.drop_length] at e2
        cases e2
        exact k2 ow2 σ2 H2 R2 z2 .refl
theorem sv_for {tg iter : Expr} {body : List Stmt} {pos : Pos} {it : IF Z.T} {g : GF} {b : SF Z.T} (hp : PassesOwn (model X.prog X.w) X.A X.env X.xe) (hc : X.calm = true) (hi : PI X tg iter (tI C it)) (hg : PG X tg (tG C S g)) (hb : PSs X body (tS C b))
    (hs : ∀ x, foldedSetIterable iter X.env x = pure x := by intro _; rfl) : PS X (.For tg iter body [] pos) (tS C (forF it g b)) :=
  ⟨fun pins s σ H E I h => (ps_for hp hc hi hg hb hs).run pins s σ H E I (tS_for h)⟩
end
end FD

/-! F8: changes of own objects, comprehensions. -/
namespace FD
open PySem PySem.Spec PyProof.Rows L2

section
variable {Z : Wd} {C : Fx Z} {X : Cx} {ow ow1 : Nat → Option Addr} {τ : List Sl} {t : Z.T} {σ : L2.St} {H H1 H' : Hp}
theorem Rel.own_ne (R : C.Rel ow τ t σ H) {j : Nat} {a : Addr} (e : ow j = some a) : ¬ C.O a := fun h => by
  obtain ⟨o, h1, _⟩ := R.hidT a h
  rw [(R.new j a e).1] at h1
  cases h1
theorem ext_upd {O : Addr → Prop} {a : Addr} {o : HO} (h : O a) : Ext O H O (upd H a o) := ⟨fun b u e n => by
  rw [upd_ne (fun z => n (by rw [z]; exact h))]
  exact e, fun _ q => .inl q⟩
/-- an own object that is in no slot changes -/
theorem Rel.mutK (R : C.Rel ow τ t σ H) {j : Nat} {a : Addr} {o : HO} (e : ow j = some a) (hj : τ.length < j) (n : ∀ xs, o ≠ .tup xs) : C.Rel ow τ t σ (upd H a o) where
  on := Z.loc t H _ R.on fun b u hb q => by
    rw [upd_ne (fun z => R.own_ne e (by rw [← z]; exact R.hid b hb))]
    exact q
  hid := R.hid
  hidT := R.hidT
  grow := fun b u q nb => by
    rw [upd_ne (fun z => by rw [z, (R.new j a e).1] at q; cases q)]
    exact R.grow b u q nb
  len := R.len
  slot := fun i s q => (R.slot i s q).ext (ext_upd (.inr ⟨j, e⟩)) fun b h => ⟨h, upd_ne fun z => by
    have := R.inj (i + 1) j a (by rw [← z]; exact h) e
    have := (List.getElem?_eq_some_iff.mp q).1
    omega⟩
  inj := R.inj
  new := fun i b h => by
    obtain ⟨h1, u, h2, m⟩ := R.new i b h
    refine ⟨h1, ?_⟩
    by_cases z : b = a
    · rw [z]; exact ⟨o, upd_same, n⟩
    · exact ⟨u, by rw [upd_ne z]; exact h2, m⟩
/-- slot i's own object changes -/
theorem Rel.mutS (R : C.Rel ow τ t σ H) {i : Nat} {a : Addr} {o : HO} {d d' : D} (e : ow (i + 1) = some a) (hs : τ[i]? = some (.o d)) (n : ∀ xs, o ≠ .tup xs) (c : Cont Z (C.Hid ow) H o d') : C.Rel ow (τ.set i (.o d')) t σ (upd H a o) where
  on := Z.loc t H _ R.on fun b u hb q => by
    rw [upd_ne (fun z => R.own_ne e (by rw [← z]; exact R.hid b hb))]
    exact q
  hid := R.hid
  hidT := R.hidT
  grow := fun b u q nb => by
    rw [upd_ne (fun z => by rw [z, (R.new _ a e).1] at q; cases q)]
    exact R.grow b u q nb
  len := by rw [List.length_set]; exact R.len
  slot := fun k s q => by
    by_cases z : k = i
    · subst z
      rw [List.getElem?_set_self (List.getElem?_eq_some_iff.mp hs).1] at q
      cases q
      obtain ⟨b, u, e1, e2, e3, _⟩ := R.slot k _ hs
      rw [e] at e1
      cases e1
      exact ⟨a, o, e, e2, upd_same, c.ext (ext_upd (.inr ⟨_, e⟩))⟩
    · rw [List.getElem?_set_ne (Ne.symm z)] at q
      exact (R.slot k s q).ext (ext_upd (.inr ⟨_, e⟩)) fun b h => ⟨h, upd_ne fun y => z (by
        have := R.inj (k + 1) (i + 1) a (by rw [← y]; exact h) e
        omega)⟩
  inj := R.inj
  new := fun i b h => by
    obtain ⟨h1, u, h2, m⟩ := R.new i b h
    refine ⟨h1, ?_⟩
    by_cases z : b = a
    · rw [z]; exact ⟨o, upd_same, n⟩
    · exact ⟨u, by rw [upd_ne z]; exact h2, m⟩
/-- a new object is laid and parked at an index that no slot has -/
theorem Rel.park {p : Addr} {o : HO} {K : Nat} (R : C.Rel ow τ t σ H) (hK : τ.length < K) (h : H p = none) (hn : ∀ xs, o ≠ .tup xs) : C.Rel (put ow K p) τ t σ (upd H p o) where
  on := Z.loc t H _ R.on fun a u _ e => Grow.new h a u e
  hid := R.hid
  hidT := R.hidT
  grow := fun a u e n => Grow.new h a u (R.grow a u e n)
  len := R.len
  slot := fun i s e => (R.slot i s e).ext (ext_put h) fun a q => ⟨by
    have := (List.getElem?_eq_some_iff.mp e).1
    rw [put_ne (by omega)]; exact q, by
    obtain ⟨_, u, e, _⟩ := R.new _ a q
    rw [e]
    exact Grow.new h a u e⟩
  inj := fun i j a h1 h2 => by
    have old : ∀ i a, ow i = some a → a ≠ p := fun i a q z => by
      obtain ⟨_, u, e, _⟩ := R.new i a q
      rw [z, h] at e
      cases e
    rcases put_some h1 with ⟨e1, e2⟩ | ⟨_, e2⟩
    · rcases put_some h2 with ⟨e3, _⟩ | ⟨_, e4⟩
      · rw [e1, e3]
      · exact absurd e2 (old j a e4)
    · rcases put_some h2 with ⟨_, e3⟩ | ⟨_, e4⟩
      · exact absurd e3 (old i a e2)
      · exact R.inj i j a e2 e4
  new := fun i a q => by
    rcases put_some q with ⟨_, e⟩ | ⟨_, e⟩
    · subst e
      refine ⟨?_, o, upd_same, hn⟩
      cases z : C.H a with
      | none => rfl
      | some u =>
        by_cases g : Z.hid a
        · obtain ⟨u', e', _⟩ := Z.trk t H a R.on g
          rw [h] at e'
          cases e'
        · have := R.grow a u z g
          rw [h] at this
          cases this
    · obtain ⟨h1, u, e2, n⟩ := R.new i a e
      exact ⟨h1, u, Grow.new h a u e2, n⟩
/-- what was parked is pending -/
theorem Rel.unpark {K : Nat} (R : C.Rel ow τ t σ H) (hK : τ.length < K) : C.Rel (move ow K 0) τ t σ H where
  on := R.on
  hid := R.hid
  hidT := R.hidT
  grow := R.grow
  len := R.len
  slot := fun i s e => (R.slot i s e).ext ext_move fun a q => ⟨by
    have := (List.getElem?_eq_some_iff.mp e).1
    unfold move
    rw [if_neg (by omega), if_neg (by omega)]
    exact q, rfl⟩
  inj := move_inj (by omega) R.inj
  new := fun k b h => by
    rcases move_some h with ⟨_, e⟩ | ⟨_, _, e⟩
    · exact R.new _ b e
    · exact R.new _ b e
end

/-! ### readings whose frame is open -/
def dead : WX := fun _ _ _ _ => False
def tFx (Z : Wd) (f : EF Z.T) : TE := fun σ H Q => ∃ C : Fx Z, C.W = dead ∧ tF C f σ H Q
def tTx (Z : Wd) (f : EF Z.T) : TT := fun σ H Q => ∃ C : Fx Z, C.W = dead ∧ tT C f σ H Q
def tGx (Z : Wd) (S : List Nat) (g : GF) : TG := fun v σ H Q => ∃ C : Fx Z, C.W = dead ∧ tG C S g v σ H Q
def tIx (Z : Wd) (f : IF Z.T) : TI := fun σ H R => ∃ C : Fx Z, C.W = dead ∧ tI C f σ H R
section
variable {Z : Wd} {X : Cx} {e : Expr}
theorem ex_F {f : EF Z.T} (h : ∀ C : Fx Z, C.W = dead → PE X e (tF C f)) : PE X e (tFx Z f) := ⟨fun pins s σ H Q I ⟨C, w, q⟩ => (h C w).run pins s σ H Q I q⟩
theorem ex_T {f : EF Z.T} (h : ∀ C : Fx Z, C.W = dead → PT X e (tT C f)) : PT X e (tTx Z f) := ⟨fun pins s σ H Q I ⟨C, w, q⟩ => (h C w).run pins s σ H Q I q⟩
theorem ex_G {S : List Nat} {g : GF} (h : ∀ C : Fx Z, C.W = dead → PG X e (tG C S g)) : PG X e (tGx Z S g) := ⟨fun pins s σ H v u Q I r ⟨C, w, q⟩ => (h C w).run pins s σ H v u Q I r q⟩
theorem ex_I {tg : Expr} {f : IF Z.T} (h : ∀ C : Fx Z, C.W = dead → PI X tg e (tI C f)) : PI X tg e (tIx Z f) := ⟨fun pins s σ H R I ⟨C, w, q⟩ => (h C w).run pins s σ H R I q⟩
def yesF {T : Type} : EF T := conF (.bl true)
theorem ex_yes : PTs X [] (tTx Z yesF) := ⟨fun pins s σ H Q I ⟨C, w, q⟩ => pts_nil.run pins s σ H Q I (con_tT q)⟩
theorem ex_one {f : EF Z.T} (h : ∀ C : Fx Z, C.W = dead → PT X e (tT C f)) : PTs X [e] (tTx Z f) := pts_one (ex_T h)
end

/-! ### comprehensions -/
def unown : Sl → Sl
  | .o _ => .no
  | .x => .no
  | s => s
/-- what a block sees: neither its own names nor own objects -/
def hideFrom (vs : List Nat) : Nat → List Sl → List Sl
  | _, [] => []
  | i, s :: r => (if i ∈ vs then .no else unown s) :: hideFrom vs (i + 1) r
theorem hideFrom_get {vs : List Nat} : ∀ {τ : List Sl} {k i : Nat}, (hideFrom vs k τ)[i]? = (τ[i]?).map fun s => if k + i ∈ vs then .no else unown s
  | [], _, _ => by simp [hideFrom]
  | s :: r, k, 0 => by simp [hideFrom]
  | s :: r, k, i + 1 => by
    simp only [hideFrom, List.getElem?_cons_succ]
    rw [hideFrom_get (τ := r)]
    have : k + 1 + i = k + (i + 1) := by omega
    rw [this]
theorem hideFrom_len {vs : List Nat} : ∀ {τ : List Sl} {k : Nat}, (hideFrom vs k τ).length = τ.length
  | [], _ => rfl
  | s :: r, k => by simp only [hideFrom, List.length_cons, hideFrom_len (τ := r)]
def shareAll : List Nat → List Sl → List Sl
  | [], τ => τ
  | i :: is, τ => shareAll is (match τ[i]? with
    | some (.o d) => τ.set i (.v d)
    | _ => τ)
def lcL {T : Type} (g : GF) (c e : EF T) (τ0 : List Sl) : List D → T → Option (List D × T)
  | [], t => some ([], t)
  | d :: ds, t => match g d τ0 with
    | none => none
    | some τ1 => match c (τ1, t) with
      | some (.ok r, s2) => match peek s2.1 (hold r) with
        | some (.bl true) => match e s2 with
          | some (.ok r3, s3) => match give s3.1 r3 with
            | some (dv, _) => match lcL g c e τ0 ds s3.2 with
              | some (rest, t') => some (dv :: rest, t')
              | none => none
            | none => none
          | _ => none
        | some (.bl false) => lcL g c e τ0 ds s2.2
        | _ => none
      | _ => none
def lcF {T : Type} (sh vs : List Nat) (it : IF T) (g : GF) (c e : EF T) : EF T := fun s => match it s with
  | none => none
  | some (.ex k fs, s1) => some (.ex k fs, s1)
  | some (.ok ds, s1) => if ds.length ≤ LEN then match lcL g c e (hideFrom vs 0 (shareAll sh s1.1)) ds s1.2 with
      | none => none
      | some (out, t) => some (.ok (.f (.lst out)), (shareAll sh s1.1, t))
    else none
section
variable {Z : Wd} {C : Fx Z} {X : Cx} {ow ow1 : Nat → Option Addr} {τ : List Sl} {t : Z.T} {σ : L2.St} {H H1 H' : Hp}
theorem Rel.shareAll : ∀ {sh : List Nat} {ow : Nat → Option Addr} {τ : List Sl}, C.Rel ow τ t σ H → ow 0 = none → ∃ ow', C.Rel ow' (FD.shareAll sh τ) t σ H ∧ ow' 0 = none ∧ Ext (C.Hid ow) H (C.Hid ow') H
  | [], ow, _, R, z => ⟨ow, R, z, .refl⟩
  | i :: is, ow, τ, R, z => by
    unfold FD.shareAll
    split
    · rename_i d p
      obtain ⟨ow', R', z', x⟩ := Rel.shareAll (sh := is) (R.share p) (drop_zero z)
      exact ⟨ow', R', z', ext_drop.trans x⟩
    · exact Rel.shareAll R z
theorem shareAll_len : ∀ {sh : List Nat} {τ : List Sl}, (FD.shareAll sh τ).length = τ.length
  | [], _ => rfl
  | i :: is, τ => by
    unfold FD.shareAll
    rw [shareAll_len (sh := is)]
    split
    · rw [List.length_set]
    · rfl
theorem wipe_off {S vs : List Nat} {σ σ' : L2.St} (h : Off S (wipe σ vs) σ') (k : ∀ i ∈ S, i ∈ vs) : wipe σ' vs = wipe σ vs := by
  have get : ∀ (vs : List Nat) (σ : L2.St) (i : Nat), (wipe σ vs)[i]? = if i ∈ vs then (σ[i]?).map (fun _ => none) else σ[i]? := by
    intro vs
    induction vs with
    | nil => intro σ i; simp [wipe]
    | cons v vs ih =>
      intro σ i
      unfold wipe
      by_cases e : i = v
      · subst e
        rw [if_pos (by simp)]
        by_cases hl : i < (wipe σ vs).length
        · rw [List.getElem?_set_self hl]
          rw [wipe_length] at hl
          rw [List.getElem?_eq_getElem hl]
          rfl
        · rw [List.getElem?_eq_none (by simpa using hl)]
          rw [wipe_length] at hl
          rw [List.getElem?_eq_none (by omega)]
          rfl
      · rw [List.getElem?_set_ne (Ne.symm e), ih]
        by_cases m : i ∈ vs
        · rw [if_pos m, if_pos (by simp [m])]
        · rw [if_neg m, if_neg (by simp [m, e])]
  apply List.ext_getElem?
  intro i
  rw [get, get]
  have hl : σ'.length = σ.length := by
    have := h.1
    rw [wipe_length] at this
    exact this
  by_cases m : i ∈ vs
  · rw [if_pos m, if_pos m]
    by_cases q : i < σ.length
    · rw [List.getElem?_eq_getElem q, List.getElem?_eq_getElem (by omega)]
      rfl
    · rw [List.getElem?_eq_none (by omega), List.getElem?_eq_none (by omega)]
  · rw [if_neg m, if_neg m, h.2 i (fun z => m (k i z)), get, if_neg m]
/-- the frame of a block: all that is hidden or own is the callers' -/
def blkFx {Z : Wd} (O : Addr → Prop) (H : Hp) : Fx Z := ⟨O, H, dead, noEv⟩
theorem Rel.block {vs : List Nat} (R : C.Rel ow τ t σ H) : (blkFx (Z := Z) (C.Hid ow) H).Rel (fun _ => none) (hideFrom vs 0 τ) t (wipe σ vs) H where
  on := R.on
  hid := fun a h => .inl (R.hid a h)
  hidT := fun a h => R.track h
  grow := fun a o e _ => e
  len := by rw [hideFrom_len, wipe_length]; exact R.len
  slot := fun i s e => by
    rw [hideFrom_get, Option.map_eq_some_iff] at e
    obtain ⟨s0, e0, e⟩ := e
    rw [Nat.zero_add] at e
    split at e
    · subst e
      trivial
    · rename_i m
      have q := R.slot i s0 e0
      cases s0 with
      | no => subst e; trivial
      | x => subst e; trivial
      | o d => subst e; trivial
      | v d =>
        subst e
        obtain ⟨v, e1, q⟩ := q
        refine ⟨v, ?_, q.mono fun a o h n => ⟨h, fun z => n (z.elim id fun ⟨_, z⟩ => by cases z)⟩⟩
        have get : ∀ (vs : List Nat), i ∉ vs → (wipe σ vs)[i]? = σ[i]? := by
          intro vs
          induction vs with
          | nil => intro _; rfl
          | cons v vs ih =>
            intro h
            simp only [List.mem_cons, not_or] at h
            unfold wipe
            rw [List.getElem?_set_ne (Ne.symm h.1)]
            exact ih h.2
        rw [get vs m]
        exact e1
  inj := fun _ _ _ e => by cases e
  new := fun _ _ e => by cases e
theorem hid_blk {O : Addr → Prop} {H : Hp} {a : Addr} : (blkFx (Z := Z) O H).Hid (fun _ => none) a ↔ O a := Iff.intro (fun h => h.elim id (fun ⟨_, z⟩ => nomatch z)) (fun h => .inl h)
/-- behind a block's turn: the outer frame -/
theorem Rel.behind {ow2 : Nat → Option Addr} {τ2 : List Sl} {t2 : Z.T} {σ2 : L2.St} {H2 : Hp} (R : C.Rel ow τ t σ H) (R2 : (blkFx (Z := Z) (C.Hid ow) H).Rel ow2 τ2 t2 σ2 H2) : C.Rel ow τ t2 σ H2 where
  on := R2.on
  hid := R.hid
  hidT := R.hidT
  grow := fun a o e n => R2.grow a o (R.grow a o e n) n
  len := R.len
  slot := fun i s e => (R.slot i s e).ext ⟨fun a o e n => R2.grow a o e fun z => n (.inl (R.hid a z)), fun _ h => .inl h⟩ fun a h => ⟨h, by
    obtain ⟨_, o, e1, _⟩ := R.new _ a h
    exact (R2.grow a o e1 fun z => R.own_ne h (R.hid a z)).trans e1.symm⟩
  inj := R.inj
  new := fun i a h => by
    obtain ⟨h1, o, e1, n⟩ := R.new i a h
    exact ⟨h1, o, R2.grow a o e1 fun z => R.own_ne h (R.hid a z), n⟩
theorem ext_behind {ow2 : Nat → Option Addr} {τ2 : List Sl} {t2 : Z.T} {σ2 : L2.St} {H2 : Hp} (R : C.Rel ow τ t σ H) (R2 : (blkFx (Z := Z) (C.Hid ow) H).Rel ow2 τ2 t2 σ2 H2) : Ext (C.Hid ow) H (C.Hid ow) H2 :=
  ⟨fun a o e n => R2.grow a o e fun z => n (.inl (R.hid a z)), fun _ h => .inl h⟩
theorem lcL_len {T : Type} {g : GF} {c e : EF T} {τ0 : List Sl} : ∀ {ds : List D} {t t' : T} {out : List D}, lcL g c e τ0 ds t = some (out, t') → out.length ≤ ds.length
  | [], _, _, _, h => by cases h; exact Nat.le_refl _
  | d :: ds, t, t', out, h => by
    unfold lcL at h
    split at h
    · cases h
    · split at h
      · split at h
        · split at h
          · split at h
            · split at h
              · rename_i p
                cases h
                have := lcL_len p
                simp only [List.length_cons]
                omega
              · cases h
            · cases h
          · cases h
        · have := lcL_len h
          simp only [List.length_cons]
          omega
        · cases h
      · cases h
theorem line_len {n : Nat} (h : n < LEN) : n < sizeLine := Nat.lt_of_lt_of_le h (by decide)
theorem tF_lc {S sh vs : List Nat} {it : IF Z.T} {g : GF} {c e : EF Z.T} {Q : VK} (hS : ∀ i ∈ S, i ∈ vs) (h : tF C (lcF sh vs it g c e) σ H Q) : tLc (tI C it) (tGx Z S g) (tTx Z c) (tFx Z e) vs σ H Q := by
  obtain ⟨ow, τ, t, o, s', R, z, e, k⟩ := h
  unfold lcF at e
  cases q : it (τ, t) with
  | none => rw [q] at e; cases e
  | some w =>
    obtain ⟨o1, s1⟩ := w
    rw [q] at e
    refine ⟨ow, τ, t, o1, s1, R, z, q, ?_⟩
    cases o1 with
    | ex c fs =>
      cases e
      exact k
    | ok ds =>
      intro ow0 J H0 R0 z0 x0 w0
      simp only at e
      split at e
      · rename_i hlen
        split at e
        · cases e
        · rename_i out tout p
          cases e
          obtain ⟨ow1, R1, z1, x1⟩ := R0.shareAll (sh := sh) z0
          have w1 := w0.ext x1
          have x01 := x0.trans x1
          intro Dl hD
          have hK : (FD.shareAll sh s1.1).length < s1.1.length + 1 := by rw [shareAll_len]; omega
          obtain ⟨G, Y, wk, hG, hY⟩ := w1
          refine lc_it wk (fun i H2 => ∃ t2 ds2 acc dacc, C.Rel (put ow1 (s1.1.length + 1) Dl) (FD.shareAll sh s1.1) t2 σ H2 ∧ Ext (C.Hid ow1) H0 (C.Hid (put ow1 (s1.1.length + 1) Dl)) H2 ∧ H2 Dl = some (.lst acc) ∧
            DenA Z (C.Hid (put ow1 (s1.1.length + 1) Dl)) H2 acc dacc ∧ dacc.length ≤ i ∧ lcL g c e (hideFrom vs 0 (FD.shareAll sh s1.1)) (ds.drop i) t2 = some (ds2, tout) ∧ dacc ++ ds2 = out) ?_ ?_ ?_ ?_
          · exact ⟨s1.2, out, [], [], R1.park hK hD (fun _ q => nomatch q), ext_put hD, upd_same, .nil, Nat.le_refl _, p, rfl⟩
          · rintro i H2 hi ⟨t2, ds2, acc, dacc, R2, x2, _⟩
            exact hG _ _ x2
          · rintro i x H2 H3 hi ⟨t2, ds2, acc, dacc, R2, x2, hacc, dn, hl, e2, eo⟩ y
            obtain ⟨d, hd, gr, dnx⟩ := hY i H2 x H3 _ hi x2 (fun p hp => R2.nohid hp) y
            have hdr : ds.drop i = d :: ds.drop (i + 1) := by
              rw [List.drop_eq_getElem_cons hi]
              have : ds[i] = d := by
                have := List.getElem?_eq_getElem hi
                rw [hd] at this
                exact (Option.some.inj this).symm
              rw [this]
            rw [hdr] at e2
            unfold lcL at e2
            split at e2
            · cases e2
            · rename_i τ1 p1
              have R3 := R2.grown gr
              have x23 : Ext (C.Hid (put ow1 (s1.1.length + 1) Dl)) H2 (C.Hid (put ow1 (s1.1.length + 1) Dl)) H3 := gr.ext
              have B := R3.block (vs := vs)
              refine ⟨blkFx (C.Hid (put ow1 (s1.1.length + 1) Dl)) H3, rfl, fun _ => none, _, t2, d, τ1, B, rfl, dnx.mono fun a o h n => ⟨h, fun z => n (hid_blk.mp z)⟩, p1, fun ow4 σ4 R4 z4 x4 f4 => ⟨wipe_off f4 hS, ?_⟩⟩
              split at e2
              · rename_i r s2 p2
                -- the heap behind the test or the element: the outer frame
                have own : put ow1 (s1.1.length + 1) Dl (s1.1.length + 1) = some Dl := put_same
                have keepD : ∀ {ow5 : Nat → Option Addr} {τ5 : List Sl} {t5 : Z.T} {σ5 : L2.St} {H5 : Hp}, (blkFx (Z := Z) (C.Hid (put ow1 (s1.1.length + 1) Dl)) H3).Rel ow5 τ5 t5 σ5 H5 → H5 Dl = some (.lst acc) := fun R5 => R5.grow Dl _ (gr _ _ hacc) fun z => R3.own_ne own (R3.hid _ z)
                split at e2
                · rename_i p3
                  refine ⟨blkFx (C.Hid (put ow1 (s1.1.length + 1) Dl)) H3, rfl, ow4, τ1, t2, R4, z4, _, _, p2, true, p3, fun ow5 H5 R5 z5 x5 => ?_⟩
                  dsimp only
                  rw [if_pos rfl]
                  split at e2
                  · rename_i r3 s3 p4
                    split at e2
                    · rename_i dv τv p5
                      split at e2
                      · rename_i rest tr p6
                        cases e2
                        refine ⟨blkFx (C.Hid (put ow1 (s1.1.length + 1) Dl)) H3, rfl, ow5, s2.1, s2.2, _, s3, R5, z5, p4, fun ow6 v H6 R6 r6 x6 => ?_⟩
                        obtain ⟨ow7, R7, z7, d7, x7⟩ := r6.give R6 p5
                        refine ⟨acc, keepD R7, ?_, ?_⟩
                        · have h1 := dn.len
                          refine line_len ?_
                          omega
                        · have RB := R3.behind R7
                          have xB := ext_behind R3 R7
                          have dv' : Den Z (C.Hid (put ow1 (s1.1.length + 1) Dl)) H6 v dv := d7.mono fun a o h n => ⟨h, fun z => n (.inl z)⟩
                          have u : Ext (C.Hid (put ow1 (s1.1.length + 1) Dl)) H6 (C.Hid (put ow1 (s1.1.length + 1) Dl)) (upd H6 Dl (.lst (acc ++ [v]))) := ext_upd (.inr ⟨_, own⟩)
                          refine ⟨s3.2, rest, acc ++ [v], dacc ++ [dv], RB.mutK own hK (fun _ q => nomatch q), ((x2.trans x23).trans xB).trans u, upd_same, (((dn.ext x23).ext xB).app (.one dv')).ext u, ?_, p6, ?_⟩
                          · rw [List.length_append]
                            simp only [List.length_cons, List.length_nil]
                            omega
                          · rw [← eo, List.append_assoc]
                            rfl
                      · cases e2
                    · cases e2
                  · cases e2
                · rename_i p3
                  refine ⟨blkFx (C.Hid (put ow1 (s1.1.length + 1) Dl)) H3, rfl, ow4, τ1, t2, R4, z4, _, _, p2, false, p3, fun ow5 H5 R5 z5 x5 => ?_⟩
                  dsimp only
                  rw [if_neg (by decide)]
                  have RB := R3.behind R5
                  have xB := ext_behind R3 R5
                  exact ⟨s2.2, ds2, acc, dacc, RB, (x2.trans x23).trans xB, keepD R5, (dn.ext x23).ext xB, by omega, e2, eo⟩
                · cases e2
              · cases e2
          · rintro H2 ⟨t2, ds2, acc, dacc, R2, x2, hacc, dn, hl, e2, eo⟩
            rw [List.drop_length] at e2
            cases e2
            rw [List.append_nil] at eo
            subst eo
            have own : put ow1 (s1.1.length + 1) Dl (s1.1.length + 1) = some Dl := put_same
            refine k (move (put ow1 (s1.1.length + 1) Dl) (s1.1.length + 1) 0) (.ref Dl) H2 (R2.unpark hK) ⟨Dl, .lst acc, ?_, rfl, hacc, (Cont.lst dn).ext ext_move⟩ ((x01.trans x2).trans ext_move)
            unfold move
            rw [if_pos rfl]
            exact own
      · cases e
theorem ev_lc {elt tg iter : Expr} {ifs : List Expr} {scope : Scope} {own : List (Str × Nat)} {pos : Pos} {S sh : List Nat} {it : IF Z.T} {g : GF} {c e : EF Z.T} (hc : X.calm = true) (hN : X.N.Nodup) (hi : PI X tg iter (tI C it)) (ok : BlkOk X.N X.env.scope scope own)
    (hg : ∀ (C : Fx Z), C.W = dead → ∀ (s : Shared) (H : Hp) (A : Addr) (cl : List (Str × Addr)) (fp : List Addr), PG (X.blk s H scope (compEnvC scope cl A X.env) fp) tg (tG C S g))
    (ht : ∀ (s : Shared) (H : Hp) (A : Addr) (cl : List (Str × Addr)) (fp : List Addr), PTs (X.blk s H scope (compEnvC scope cl A X.env) fp) ifs (tTx Z c))
    (he : ∀ (C : Fx Z), C.W = dead → ∀ (s : Shared) (H : Hp) (A : Addr) (cl : List (Str × Addr)) (fp : List Addr), PE (X.blk s H scope (compEnvC scope cl A X.env) fp) elt (tF C e))
    (hS : ∀ i ∈ S, i ∈ own.map (·.2) := by decide) (hs : ∀ x, foldedSetIterable iter X.env x = pure x := by intro _; rfl) : PE X (.ListComp elt [⟨tg, iter, ifs, 0⟩] scope pos) (tF C (lcF sh (own.map (·.2)) it g c e)) :=
  ⟨fun pins s σ H Q I h => (pe_lc hc hN hi ok (fun s H A cl fp => ex_G fun C w => hg C w s H A cl fp) ht (fun s H A cl fp => ex_F fun C w => he C w s H A cl fp) hs).run pins s σ H Q I (tF_lc hS h)⟩
end
end FD

/-! F9: what a for and a comprehension walk: lists, tuples, ranges, zip. -/
namespace FD
open PySem PySem.Spec PyProof.Rows L2

def itemsD : D → Option (List D)
  | .lst ds => some ds
  | .tup ds => some ds
  | _ => none
/-- the items of what f gives -/
def seqI {T : Type} (f : EF T) : IF T := fun s => match f s with
  | none => none
  | some (.ex c fs, s1) => some (.ex c fs, s1)
  | some (.ok r, s1) => match give s1.1 r with
    | none => none
    | some (d, τ) => match itemsD d with
      | none => none
      | some ds => some (.ok ds, (τ, s1.2))
/-- what is walked, by the arguments -/
def callI {T : Type} (op : List D → Option (List D)) (g : AF T) : IF T := fun s => match g s with
  | none => none
  | some (.ex c fs, s1) => some (.ex c fs, s1)
  | some (.ok rs, s1) => match giveAll s1.1 rs with
    | none => none
    | some (ds, τ) => match op ds with
      | none => none
      | some out => some (.ok out, (τ, s1.2))
section
variable {Z : Wd} {C : Fx Z} {X : Cx} {tg e e2 : Expr} {σ : L2.St} {H : Hp} {R : It → Hp → Prop} {pos p : Pos}
/-- where one comes to with the items -/
theorem seqI_of {f : EF Z.T} (h : tI C (seqI f) σ H R) : tF C f σ H fun v H1 => ∃ O ds d, itemsD d = some ds ∧ Den Z O H1 v d ∧ ∀ J, Walks Z O H1 J ds → R J H1 := by
  obtain ⟨ow, τ, t, o, s', R0, z, e, k⟩ := h
  unfold seqI at e
  cases q : f (τ, t) with
  | none => rw [q] at e; cases e
  | some w =>
    obtain ⟨o1, s1⟩ := w
    rw [q] at e
    refine ⟨ow, τ, t, o1, s1, R0, z, q, ?_⟩
    cases o1 with
    | ex c fs => cases e; exact k
    | ok r =>
      intro ow1 v H1 R1 r1 x1
      simp only at e
      split at e
      · cases e
      · rename_i d τ2 p1
        split at e
        · cases e
        · rename_i ds p2
          cases e
          obtain ⟨ow2, R2, z2, d2, x2⟩ := r1.give R1 p1
          exact ⟨_, ds, d, p2, d2, fun J w => k ow2 J H1 R2 z2 (x1.trans x2) w⟩
theorem callI_of {op : List D → Option (List D)} {g : AF Z.T} (h : tI C (callI op g) σ H R) : tA C g σ H fun vs H1 => ∃ O ds out, op ds = some out ∧ DenA Z O H1 vs ds ∧ ∀ J, Walks Z O H1 J out → R J H1 := by
  obtain ⟨ow, τ, t, o, s', R0, z, e, k⟩ := h
  unfold callI at e
  cases q : g (τ, t) with
  | none => rw [q] at e; cases e
  | some w =>
    obtain ⟨o1, s1⟩ := w
    rw [q] at e
    refine ⟨ow, τ, t, R0, z, o1, s1, q, ?_⟩
    cases o1 with
    | ex c fs => cases e; exact k
    | ok r =>
      intro ow1 v H1 R1 z1 r1 x1
      simp only at e
      split at e
      · cases e
      · rename_i ds τ2 p1
        split at e
        · cases e
        · rename_i out p2
          cases e
          obtain ⟨ow2, R2, z2, d2, x2⟩ := r1.give R1 z1 p1
          exact ⟨_, ds, out, p2, d2, fun J w => k ow2 J H1 R2 z2 (x1.trans x2) w⟩
theorem walks_list {K : PySem.W.Frag} {O : Addr → Prop} {a : Addr} {xs : List V} {ds : List D} (h : H a = some (.lst xs)) (n : ¬ O a) (c : DenA Z O H xs ds) : Walks Z O H (Itl K a) ds := by
  refine ⟨_, _, by rw [← c.len]; exact walk_list (xs := xs), fun O' H' x => SqL.of (x.kept a _ h n), fun i H1 v H2 O1 hi x _ y => ?_⟩
  obtain ⟨rfl, y⟩ := y
  obtain ⟨d, e, dn⟩ := c.get y
  exact ⟨d, e, Grow.refl, dn.ext x⟩
theorem walks_tup {K : PySem.W.Frag} {O : Addr → Prop} {a : Addr} {xs : List V} {ds : List D} (h : H a = some (.tup xs)) (n : ¬ O a) (c : DenA Z O H xs ds) : Walks Z O H (Itt K a) ds := by
  refine ⟨_, _, by rw [← c.len]; exact walk_tup (xs := xs), fun O' H' x => SqT.of (x.kept a _ h n), fun i H1 v H2 O1 hi x _ y => ?_⟩
  obtain ⟨rfl, y⟩ := y
  obtain ⟨d, e, dn⟩ := c.get y
  exact ⟨d, e, Grow.refl, dn.ext x⟩
/-- a list or a tuple walked -/
def iSeq (K : PySem.W.Frag) (tl : TE) : TI := fun σ H R => tl σ H fun x H1 => ∃ a, x = .ref a ∧ (((∃ xs, SqL K H1 a xs) ∧ R (Itl K a) H1) ∨ ((∃ xs, SqT K H1 a xs) ∧ R (Itt K a) H1))
theorem pi_seq {l : Expr} {tl : TE} (hl : PE X l tl) : PI X tg l (iSeq X.K tl) := by
  refine ⟨fun pins s σ H R I h => ?_⟩
  refine thn (hl.run pins s σ H _ I h) fun v s1 ⟨x, H1, I1, r1, q1⟩ => ?_
  obtain ⟨a, e, q⟩ := q1
  subst e
  cases r1
  have fresh : ∀ b ∈ [s1.heap.objs.size], FpOk X pins H1 b := fun b hb => by
    have e : b = s1.heap.objs.size := by simpa using hb
    subst e
    exact I1.fpOk (Nat.le_refl _) (I1.hok.fresh (Nat.le_refl _))
  rcases q with ⟨⟨xs, hq⟩, q⟩ | ⟨⟨xs, hq⟩, q⟩
  · obtain ⟨its, rv, p, hz⟩ := I1.list hq
    refine wpAny_pyIter_list p.isList ?_
    exact ⟨s1.heap.objs.size, [s1.heap.objs.size], _, _, H1, rfl, I1.kept (t' := s1.toks) fun b o e => Heap.get?_push_of_some _ e, turn_list a _, ⟨_, Heap.get?_push_size _ rfl, rfl, rfl⟩, fresh, q⟩
  · obtain ⟨its, rv, p, hz⟩ := I1.tuple hq
    refine wpAny_pyIter_tuple (show s1.heap.IsTuple a its.toArray from p) ?_
    exact ⟨s1.heap.objs.size, [s1.heap.objs.size], _, _, H1, rfl, I1.kept (t' := s1.toks) fun b o e => Heap.get?_push_of_some _ e, turn_tuple a _, ⟨_, Heap.get?_push_size _ rfl, rfl, rfl⟩, fresh, q⟩
theorem den_items {O : Addr → Prop} {v : V} {d : D} {ds : List D} (h : Den Z O H v d) (e : itemsD d = some ds) : ∃ a xs, v = .ref a ∧ ¬ O a ∧ DenA Z O H xs ds ∧ (H a = some (.lst xs) ∨ H a = some (.tup xs)) := by
  unfold itemsD at e
  split at e
  · cases e
    cases h with
    | ref e n c => cases c with
      | lst c => exact ⟨_, _, rfl, n, c, .inl e⟩
  · cases e
    cases h with
    | ref e n c => cases c with
      | tup c => exact ⟨_, _, rfl, n, c, .inr e⟩
  · cases e
theorem iv_seq {f : EF Z.T} (he : PE X e (tF C f)) : PI X tg e (tI C (seqI f)) := ⟨fun pins s σ H R I h => (pi_seq he).run pins s σ H R I (tF_mono (seqI_of h) fun v H1 ⟨O, ds, d, e, dn, k⟩ => by
  obtain ⟨a, xs, rfl, n, c, q⟩ := den_items dn e
  rcases q with q | q
  · exact ⟨a, rfl, .inl ⟨⟨xs, SqL.of q⟩, k _ (walks_list q n c)⟩⟩
  · exact ⟨a, rfl, .inr ⟨⟨xs, SqT.of q⟩, k _ (walks_tup q n c)⟩⟩)⟩

/-! ### ranges -/
def small (i : Int) : Bool := decide (-(2 ^ 60) ≤ i ∧ i ≤ 2 ^ 60)
def rngL (lo hi : Int) : List D := (List.range (hi - lo).toNat).map fun (k : Nat) => D.int (lo + (k : Int))
def rng1D : List D → Option (List D)
  | [.int j] => if small j = true then some (rngL 0 j) else none
  | _ => none
def rng2D : List D → Option (List D)
  | [.int i, .int j] => if small i = true ∧ small j = true then some (rngL i j) else none
  | _ => none
theorem walks_range {O : Addr → Prop} {lo hi : Int} : Walks Z O H (Itr lo (hi - lo).toNat) (rngL lo hi) := by
  refine ⟨_, _, by rw [show (rngL lo hi).length = (hi - lo).toNat by simp [rngL]]; exact walk_range, fun _ _ _ => trivial, fun i H1 v H2 O1 hi x _ y => ?_⟩
  obtain ⟨rfl, rfl⟩ := y
  refine ⟨.int (lo + (i : Int)), ?_, Grow.refl, .int _⟩
  have : i < (rngL lo _).length := hi
  simp only [rngL, List.length_map, List.length_range] at this
  simp only [rngL, List.getElem?_map, List.getElem?_range this, Option.map_some]
theorem den_int {O : Addr → Prop} {v : V} {i : Int} (h : Den Z O H v (.int i)) : v = .int i := (Shows.den h).int
theorem iv_range1 {g : AF Z.T} (hg : Gl X "range") (hm : X.mg "range" = none) (ha : PA X [e] (tA C g)) (hs : starEach [e] X.env = [(false, eval e X.env)] := by rfl) : PI X tg (.Call (.Name "range" p) [e] [] pos) (tI C (callI rng1D g)) :=
  ⟨fun pins s σ H R I h => (pi_range1 hg hm ha hs).run pins s σ H R I (tA_mono (callI_of h) fun vs H1 ⟨O, ds, out, e, dn, k⟩ => by
    unfold rng1D at e
    split at e
    · split at e
      · rename_i j hj
        cases e
        cases dn with
        | cons d r =>
          cases r
          cases den_int d
          unfold small at hj
          have hj := of_decide_eq_true hj
          refine ⟨j, rfl, by omega, by omega, ?_⟩
          have w := k (Itr 0 (j - 0).toNat) walks_range
          rw [Int.sub_zero] at w
          exact w
      · cases e
    · cases e)⟩
theorem iv_range2 {g : AF Z.T} (hg : Gl X "range") (hm : X.mg "range" = none) (ha : PA X [e, e2] (tA C g)) (hs : starEach [e, e2] X.env = [(false, eval e X.env), (false, eval e2 X.env)] := by rfl) (hs2 : starEach [e2] X.env = [(false, eval e2 X.env)] := by rfl) :
    PI X tg (.Call (.Name "range" p) [e, e2] [] pos) (tI C (callI rng2D g)) :=
  ⟨fun pins s σ H R I h => (pi_range2 hg hm ha hs hs2).run pins s σ H R I (tA_mono (callI_of h) fun vs H1 ⟨O, ds, out, e, dn, k⟩ => by
    unfold rng2D at e
    split at e
    · split at e
      · rename_i i j hj
        cases e
        cases dn with
        | cons d r =>
          cases r with
          | cons d' r =>
            cases r
            cases den_int d
            cases den_int d'
            unfold small at hj
            have h1 := of_decide_eq_true hj.1
            have h2 := of_decide_eq_true hj.2
            exact ⟨i, j, rfl, by omega, k _ walks_range⟩
      · cases e
    · cases e)⟩

/-! ### zip -/
def pairD : List D → List D → List D
  | x :: xs, y :: ys => .tup [x, y] :: pairD xs ys
  | _, _ => []
theorem pairD_len : ∀ {xs ys : List D}, (pairD xs ys).length = min xs.length ys.length
  | [], ys => by simp [pairD]
  | _ :: _, [] => by simp [pairD]
  | _ :: xs, _ :: ys => by
    simp only [pairD, List.length_cons, pairD_len (xs := xs) (ys := ys)]
    omega
theorem pairD_get : ∀ {xs ys : List D} {i : Nat} {x y : D}, xs[i]? = some x → ys[i]? = some y → (pairD xs ys)[i]? = some (.tup [x, y])
  | [], _, _, _, _, h, _ => by cases h
  | _ :: _, [], _, _, _, _, h => by cases h
  | _ :: xs, _ :: ys, 0, _, _, h, k => by
    cases h
    cases k
    rfl
  | _ :: xs, _ :: ys, i + 1, x, y, h, k => pairD_get (xs := xs) (ys := ys) (i := i) h k
/-- zip of two lists, or of two tuples -/
def zipD : List D → Option (List D)
  | [.lst xs, .lst ys] => some (pairD xs ys)
  | [.tup xs, .tup ys] => some (pairD xs ys)
  | _ => none
theorem pair_new {O : Addr → Prop} {T : Addr} {x y : V} {dx dy : D} (hO : ∀ p, H p = none → ¬ O p) (hT : H T = none) (h1 : Den Z O H x dx) (h2 : Den Z O H y dy) : Grow H (upd H T (.tup [x, y])) ∧ Den Z O (upd H T (.tup [x, y])) (.ref T) (.tup [dx, dy]) :=
  Gets.tup (Z := Z) hO hT (.cons h1 (.cons h2 .nil))
theorem walk_zipT {K : PySem.W.Frag} {a b : Addr} {xs ys : List V} {n : Nat} (hn : n = min xs.length ys.length) : Walk (RZ.ItzT K a b) n (fun H => SqT K H a xs ∧ SqT K H b ys) (YPair (fun i => xs[i]?) (fun i => ys[i]?)) := by
  subst hn
  refine ⟨fun i _ hi q => ?_, fun _ q => ⟨xs, ys, q.1, q.2, by omega⟩, fun i H v H' _ q y => ?_⟩
  · have h1 : i < xs.length := by omega
    have h2 : i < ys.length := by omega
    exact ⟨xs, ys, xs[i], ys[i], q.1, q.2, by simp [h1], by simp [h2]⟩
  · obtain ⟨T, x, z, h1, h2, h3, h4, h5⟩ := y
    exact ⟨T, x, z, h1, h2, h3, h4 xs q.1, h5 ys q.2⟩
theorem walks_pair {O : Addr → Prop} {J : It} {xs ys : List V} {ds es : List D} {G : Hp → Prop} (w : Walk J (pairD ds es).length G (YPair (fun i => xs[i]?) (fun i => ys[i]?))) (hG : ∀ O' H', Ext O H O' H' → G H') (c1 : DenA Z O H xs ds) (c2 : DenA Z O H ys es) :
    Walks Z O H J (pairD ds es) := by
  refine ⟨G, _, w, hG, fun i H1 v H2 O1 hi x hO y => ?_⟩
  obtain ⟨T, x1, y1, rfl, hT, rfl, e1, e2⟩ := y
  obtain ⟨d1, f1, n1⟩ := c1.get e1
  obtain ⟨d2, f2, n2⟩ := c2.get e2
  obtain ⟨g, dn⟩ := pair_new hO hT (n1.ext x) (n2.ext x)
  exact ⟨_, pairD_get f1 f2, g, dn⟩
theorem iv_zip {tpos : Pos} {elts : List Expr} {kk : Nat} {g : AF Z.T} (hg : Gl X "zip") (hm : X.mg "zip" = none) (ha : PA X [e, e2] (tA C g))
    (hs : starEach [e, e2] X.env = (false, eval e X.env) :: starEach [e2] X.env := by rfl) (hpl : (backTo pos (starEach [e2] X.env)).any (·.1) = false := by rfl) :
    PI X (.Tuple elts kk tpos) (.Call (.Name "zip" p) [e, e2] [] pos) (tI C (callI zipD g)) :=
  ⟨fun pins s σ H R I h => (RZ.pi_zipA hg hm ha hs hpl).run pins s σ H R I (tA_mono (callI_of h) fun vs H1 ⟨O, ds, out, e, dn, k⟩ => by
    unfold zipD at e
    split at e
    · cases e
      cases dn with
      | cons d r =>
        cases r with
        | cons d' r =>
          cases r
          cases d with
          | ref e1 n1 c1 => cases c1 with
            | lst c1 => cases d' with
              | ref e2 n2 c2 => cases c2 with
                | lst c2 => exact ⟨_, _, _, _, rfl, .inl ⟨SqL.of e1, SqL.of e2, k _ (walks_pair (walk_zip (by rw [pairD_len, c1.len, c2.len])) (fun O' H' x => ⟨SqL.of (x.kept _ _ e1 n1), SqL.of (x.kept _ _ e2 n2)⟩) c1 c2)⟩⟩
    · cases e
      cases dn with
      | cons d r =>
        cases r with
        | cons d' r =>
          cases r
          cases d with
          | ref e1 n1 c1 => cases c1 with
            | tup c1 => cases d' with
              | ref e2 n2 c2 => cases c2 with
                | tup c2 => exact ⟨_, _, _, _, rfl, .inr ⟨SqT.of e1, SqT.of e2, k _ (walks_pair (walk_zipT (by rw [pairD_len, c1.len, c2.len])) (fun O' H' x => ⟨SqT.of (x.kept _ _ e1 n1), SqT.of (x.kept _ _ e2 n2)⟩) c1 c2)⟩⟩
    · cases e)⟩
end
end FD

/-! F10: defs by functions of data: what they promise, their calls, their bodies. -/
namespace FD
open PySem PySem.Spec PyProof.Rows L2

inductive FOut where
  | ok (d : D) (fr : Bool) | ex (c : Str) (fs : List (Str × D))
abbrev FF (T : Type) := List D → T → Option (FOut × T)
def GrowZ (Z : Wd) (H H' : Hp) : Prop := ∀ a o, H a = some o → ¬ Z.hid a → H' a = some o
def FinF (Z : Wd) (O : Addr → Prop) (H : Hp) (Q : VK) (E : XK) (t' : Z.T) : FOut → Prop
  | .ok d false => ∀ v H', Z.On t' H' → GrowZ Z H H' → Den Z O H' v d → Q v H'
  | .ok d true => ∀ a o H', Z.On t' H' → GrowZ Z H H' → H a = none → H' a = some o → (∀ xs, o ≠ .tup xs) → Cont Z (fun b => O b ∨ b = a) H' o d → Q (.ref a) H'
  | .ex c fs => ∀ d H', Z.On t' H' → GrowZ Z H H' → ExOk Z O H' d fs → E (.ref (Z.ca c)) d H'
/-- what a def promises that does on data what F does -/
def spF (Z : Wd) (n : Nat) (F : FF Z.T) : Sp := fun vs H Q E => vs.length = n ∧ ∃ O t ds o t', (∀ a, Z.hid a → O a) ∧ (∀ a, O a → ∃ o, H a = some o ∧ ∀ xs, o ≠ .tup xs) ∧ Z.On t H ∧ DenA Z O H vs ds ∧ F ds t = some (o, t') ∧ FinF Z O H Q E t' o

section
variable {Z : Wd} {C : Fx Z} {X : Cx} {ow : Nat → Option Addr} {τ : List Sl} {t t' : Z.T} {σ : L2.St} {H H' : Hp}
theorem ext_grow (R : C.Rel ow τ t σ H) (g : GrowZ Z H H') : Ext (C.Hid ow) H (C.Hid ow) H' := ⟨fun a o e n => g a o e fun z => n (.inl (R.hid a z)), fun _ h => .inl h⟩
theorem Rel.called (R : C.Rel ow τ t σ H) (on : Z.On t' H') (g : GrowZ Z H H') : C.Rel ow τ t' σ H' where
  on := on
  hid := R.hid
  hidT := R.hidT
  grow := fun a o e n => g a o (R.grow a o e n) n
  len := R.len
  slot := fun i s e => (R.slot i s e).ext (ext_grow R g) fun a h => ⟨h, by
    obtain ⟨_, o, e1, _⟩ := R.new _ a h
    exact (g a o e1 fun z => R.own_ne h (R.hid a z)).trans e1.symm⟩
  inj := R.inj
  new := fun i a h => by
    obtain ⟨h1, o, e1, n⟩ := R.new i a h
    exact ⟨h1, o, g a o e1 fun z => R.own_ne h (R.hid a z), n⟩
theorem Rel.fresh0 (R : C.Rel ow τ t σ H) {p : Addr} (h : H p = none) : C.H p = none := by
  cases z : C.H p with
  | none => rfl
  | some u =>
    by_cases g : Z.hid p
    · obtain ⟨u', e', _⟩ := Z.trk t H p R.on g
      rw [h] at e'
      cases e'
    · have := R.grow p u z g
      rw [h] at this
      cases this
theorem ext_adopt (R : C.Rel ow τ t σ H) (g : GrowZ Z H H') {a : Addr} (h : H a = none) {K : Nat} : Ext (C.Hid ow) H (C.Hid (put ow K a)) H' :=
  ⟨fun b o e n => g b o e fun z => n (.inl (R.hid b z)), fun b q => (hid_put q).imp id fun z => by rw [z]; exact h⟩
/-- a call hands back an object of its own -/
theorem Rel.adopt {a : Addr} {o : HO} (R : C.Rel ow τ t σ H) (on : Z.On t' H') (g : GrowZ Z H H') (h : H a = none) (e : H' a = some o) (n : ∀ xs, o ≠ .tup xs) : C.Rel (put ow 0 a) τ t' σ H' where
  on := on
  hid := R.hid
  hidT := R.hidT
  grow := fun b u q nb => g b u (R.grow b u q nb) nb
  len := R.len
  slot := fun i s q => (R.slot i s q).ext (ext_adopt R g h) fun b y => ⟨by rw [put_ne (by omega)]; exact y, by
    obtain ⟨_, u, e1, _⟩ := R.new _ b y
    exact (g b u e1 fun z => R.own_ne y (R.hid b z)).trans e1.symm⟩
  inj := fun i j b h1 h2 => by
    have old : ∀ i b, ow i = some b → b ≠ a := fun i b q z => by
      obtain ⟨_, u, e, _⟩ := R.new i b q
      rw [z, h] at e
      cases e
    rcases put_some h1 with ⟨e1, e2⟩ | ⟨_, e2⟩
    · rcases put_some h2 with ⟨e3, _⟩ | ⟨_, e4⟩
      · rw [e1, e3]
      · exact absurd e2 (old j b e4)
    · rcases put_some h2 with ⟨_, e3⟩ | ⟨_, e4⟩
      · exact absurd e3 (old i b e2)
      · exact R.inj i j b e2 e4
  new := fun i b q => by
    rcases put_some q with ⟨_, e1⟩ | ⟨_, e1⟩
    · subst e1
      exact ⟨R.fresh0 h, o, e, n⟩
    · obtain ⟨h1, u, e2, m⟩ := R.new i b e1
      exact ⟨h1, u, g b u e2 fun z => R.own_ne e1 (R.hid b z), m⟩

/-! ### calls -/
def ucallF {T : Type} (F : FF T) (g : AF T) : EF T := fun s => match g s with
  | none => none
  | some (.ex c fs, s1) => some (.ex c fs, s1)
  | some (.ok rs, s1) => match giveAll s1.1 rs with
    | none => none
    | some (ds, τ) => match F ds s1.2 with
      | none => none
      | some (.ok d fr, t) => some (.ok (resOf (d, fr)), (τ, t))
      | some (.ex c fs, t) => some (.ex c fs, (τ, t))
theorem ResOks.len : ∀ {vs : List V} {rs : List Res}, ResOks C σ ow τ H vs rs → vs.length = rs.length
  | _, _, .nil => rfl
  | _, _, .cons _ r => by rw [List.length_cons, List.length_cons, ResOks.len r]
theorem giveAll_len : ∀ {rs : List Res} {τ τ' : List Sl} {ds : List D}, giveAll τ rs = some (ds, τ') → ds.length = rs.length
  | [], _, _, _, e => by cases e; rfl
  | r :: rs, τ, _, _, e => by
    unfold giveAll at e
    split at e
    · cases e
    · split at e
      · cases e
      · rename_i p
        cases e
        rw [List.length_cons, List.length_cons, giveAll_len p]
/-- behind the arguments of a call -/
theorem ucall_of {F : FF Z.T} {g : AF Z.T} {Q : VK} {n : Nat} (hn : ∀ ds t o, F ds t = some o → ds.length = n) (h : tF C (ucallF F g) σ H Q) : tA C g σ H fun vs H1 => spF Z n F vs H1 Q fun c d H2 => C.W c d σ H2 := by
  obtain ⟨ow, τ, t, o, s', R, z, e, k⟩ := h
  unfold ucallF at e
  cases q : g (τ, t) with
  | none => rw [q] at e; cases e
  | some w =>
    obtain ⟨o1, s1⟩ := w
    rw [q] at e
    refine ⟨ow, τ, t, R, z, o1, s1, q, ?_⟩
    cases o1 with
    | ex c fs => cases e; exact k
    | ok rs =>
      intro ow1 vs H1 R1 z1 r1 x1
      simp only at e
      split at e
      · cases e
      · rename_i ds τ2 p1
        obtain ⟨ow2, R2, z2, d2, x2⟩ := r1.give R1 z1 p1
        have x12 := x1.trans x2
        split at e
        · cases e
        · rename_i d fr t2 p2
          cases e
          refine ⟨d2.len.trans (hn _ _ _ p2), _, s1.2, ds, _, t2, fun a h => .inl (R2.hid a h), fun a h => R2.track h, R2.on, d2, p2, ?_⟩
          cases fr with
          | false => exact fun v H2 on gr dn => k ow2 v H2 (R2.called on gr) ⟨z2, dn⟩ (x12.trans (ext_grow R2 gr))
          | true =>
            intro a o H2 on gr hn e2 nt c
            refine k (put ow2 0 a) (.ref a) H2 (R2.adopt on gr hn e2 nt) ⟨a, o, put_same, rfl, e2, c.mono fun b u hb m => ⟨hb, fun y => m (hid_put y)⟩⟩ (x12.trans (ext_adopt R2 gr hn))
        · rename_i c fs t2 p2
          cases e
          exact ⟨d2.len.trans (hn _ _ _ p2), _, s1.2, ds, _, t2, fun a h => .inl (R2.hid a h), fun a h => R2.track h, R2.on, d2, p2, fun d H2 on gr eo => k ow2 d H2 (R2.called on gr) z2 (x12.trans (ext_grow R2 gr)) eo⟩
theorem ev_call {F : FF Z.T} {k n : Nat} {f : Addr} {fd : FuncData} {ps : List Str} {x : Str} {p pos : Pos} {e : Expr} {es : List Expr} {g : AF Z.T} (G : FnOk X.prog X.w X.K X.mg X.base (L2.CX X.prog X.w) k f fd ps (spF Z n F)) (hn : ∀ ds t o, F ds t = some o → ds.length = n)
    (tk : Takes X C.W) (hr : Room k X.A) (hg : Gl X x) (hm : X.mg x = some (.ref f)) (hk : PySem.W.keepIn X.K (.ref f) = true) (hb : Binds X.K fd ps []) (ha : PA X (e :: es) (tA C g))
    (hdb : (x == ("__debug__" : Str)) = false := by decide) (he : starEach (e :: es) X.env = (false, eval e X.env) :: starEach es X.env := by rfl) (hpl : (backTo pos (starEach es X.env)).any (·.1) = false := by rfl) :
    PE X (.Call (.Name x p) (e :: es) [] pos) (tF C (ucallF F g)) :=
  ⟨fun pins s σ H Q I h => (pe_callSD G hr hg hm hk hb .nil (fun σ => passAt tk σ) ha hdb he hpl).run pins s σ H Q I (tA_mono (ucall_of hn h) fun vs H1 q => by rw [List.append_nil]; exact q)⟩
end

/-! ### bodies -/
def initS (N : Nat) (ds : List D) : List Sl := ds.map Sl.v ++ List.replicate (N - ds.length) .no
def runF {T : Type} (N n : Nat) (f : SF T) : FF T := fun ds t => if ds.length = n then match f (initS N ds, t) with
    | some (.nx, s) => some (.ok .non false, s.2)
    | some (.rt (.d d), s) => some (.ok d false, s.2)
    | some (.rt (.f d), s) => some (.ok d true, s.2)
    | some (.ex c fs, s) => some (.ex c fs, s.2)
    | _ => none
  else none
section
variable {P : Program} {w : World} {K : PySem.W.Frag} {mg : Str → Option Value} {base : Heap} {Z : Wd}
theorem DenA.slots {ev : Exv} {O : Addr → Prop} {H : Hp} {n : Nat} : ∀ {vs : List V} {ds : List D} {i : Nat} {s : Sl}, DenA Z O H vs ds → (ds.map Sl.v ++ List.replicate n .no)[i]? = some s → SlotOk Z ev O H (fun _ => none) (vs.map some ++ List.replicate n none) i s
  | _, _, i, s, .nil, e => by
    simp only [List.map_nil, List.nil_append] at e
    by_cases h : i < n
    · rw [List.getElem?_replicate, if_pos h] at e
      cases e
      trivial
    · rw [List.getElem?_replicate, if_neg h] at e
      cases e
  | _, _, 0, s, .cons d _, e => by
    cases e
    exact ⟨_, rfl, d⟩
  | v :: vs, d' :: ds, i + 1, s, .cons _ r, e => by
    have q := DenA.slots (ev := ev) (n := n) (i := i) (s := s) r (by simpa using e)
    cases s with
    | no => trivial
    | x => exact ⟨by simpa using q.1, q.2⟩
    | v d =>
      obtain ⟨v, e1, e2⟩ := q
      exact ⟨v, by simpa using e1, e2⟩
    | o d =>
      obtain ⟨a, o, e1, _⟩ := q
      cases e1
theorem fn_body {x qual : Str} {st : Stmt} {f : Addr} {fd : FuncData} {N ps : List Str} {k : Nat} {b : SF Z.T} {G : FF Z.T} (F : Fun K x qual st f fd) (S : FnScope N ps (defScope st)) (hps : ps.length ≤ N.length) (hG : ∀ ds t r, G ds t = some r → runF N.length ps.length b ds t = some r)
    (hbody : ∀ (cdv : Value) (A : Around) (outer : List Env) (s : Shared) (H : Hp) (E : XK) (C : Fx Z), Room k (A.deeper (envOfC qual (defScope st) s.heap.objs.size f cdv)) → Takes (cxOf (L2.CX P w) P w K mg base N qual (defScope st) f cdv A outer s H E) C.W →
      PSs (cxOf (L2.CX P w) P w K mg base N qual (defScope st) f cdv A outer s H E) (defBody st) (tS C b)) : FnOk P w K mg base (L2.CX P w) (k + 1) f fd ps (spF Z ps.length G) := by
  refine F.okX S (fun vs H Q E h => h.1) fun cdv A outer s H vs Q E hr hsp => ?_
  obtain ⟨hl, O, t, ds, o, t', h1, h2, on, dn, e, fin⟩ := hsp
  refine ⟨_, hbody cdv A outer s H E ⟨O, H, fun c d _ H' => E c d H', noEv⟩ hr (takes_of rfl rfl rfl rfl), ?_⟩
  have hdl : ds.length = ps.length := by rw [← dn.len]; exact hl
  have e2 := hG _ _ _ e
  unfold runF at e2
  rw [if_pos hdl] at e2
  have hnone : ∀ a, Hid O (fun _ => none) a ↔ O a := fun a => Iff.intro (fun h => h.elim id (fun ⟨_, z⟩ => nomatch z)) (fun h => .inl h)
  have R : FD.Rel Z noEv O H (fun _ => none) (initS N.length ds) t (start N vs) H := {
    on := on, hid := h1, hidT := h2, grow := fun _ _ e _ => e
    len := by
      unfold initS L2.start
      rw [List.length_append, List.length_append, List.length_map, List.length_map, List.length_replicate, List.length_replicate, dn.len]
    slot := fun i s q => by
      unfold initS at q
      unfold L2.start
      have dn' : DenA Z (Hid O fun _ => none) H vs ds := dn.mono fun a o h n => ⟨h, fun z => n ((hnone a).mp z)⟩
      have := DenA.slots (ev := noEv) (n := N.length - ds.length) dn' q
      rw [dn.len]
      exact this
    inj := fun _ _ _ z => nomatch z
    new := fun _ _ z => nomatch z }
  have back : ∀ {ow : Nat → Option Addr} {H' : Hp} {v : V} {d : D}, Den Z (Hid O ow) H' v d → Den Z O H' v d := fun h => h.mono fun a o e n => ⟨e, fun z => n (.inl z)⟩
  refine ⟨fun _ => none, initS N.length ds, t, R, rfl, ?_⟩
  split at e2
  · rename_i s1 p
    cases e2
    exact ⟨.nx, s1, p, fun ow' σ' H' R' z x => fin .non H' R'.on (fun a o e n => R'.grow a o e n) .non⟩
  · rename_i d s1 p
    cases e2
    exact ⟨_, s1, p, fun ow' σ' v H' R' r x => fin v H' R'.on (fun a o e n => R'.grow a o e n) (back r.2)⟩
  · rename_i d s1 p
    cases e2
    refine ⟨_, s1, p, fun ow' σ' v H' R' r x => ?_⟩
    obtain ⟨a, o, e1, rfl, e3, c⟩ := r
    obtain ⟨hn, u, e4, nt⟩ := R'.new _ a e1
    rw [e3] at e4
    cases e4
    exact fin a o H' R'.on (fun a o e n => R'.grow a o e n) hn e3 nt (c.mono fun b u e n => ⟨e, fun z => n (z.elim .inl fun z => .inr ⟨0, by rw [z]; exact e1⟩)⟩)
  · rename_i c fs s1 p
    cases e2
    refine ⟨_, s1, p, fun ow' σ' d H' R' z x eo => fin d H' R'.on (fun a o e n => R'.grow a o e n) ?_⟩
    cases d with
    | none => exact eo
    | some dd =>
      obtain ⟨vs, e5, n, q⟩ := eo
      exact ⟨vs, e5, fun z => n (.inl z), q.mono fun a o e n => ⟨e, fun z => n (.inl z)⟩⟩
  · cases e2
end
end FD

/-! F11: built-in functions of data, items, slices. -/
namespace FD
open PySem PySem.Spec PyProof.Rows L2
section
variable {Z : Wd} {X : Cx}
/-! ### items -/
def ixD : D → D → Option (D × Bool)
  | .lst ds, .int i => (atI ds i).map fun d => (d, false)
  | .tup ds, .int i => (atI ds i).map fun d => (d, false)
  | _, _ => none
theorem DenA.atI {O : Addr → Prop} {H : Hp} {xs : List V} {ds : List D} {i : Int} {d : D} (h : DenA Z O H xs ds) (e : L2.atI ds i = some d) : ∃ v, L2.atI xs i = some v ∧ Den Z O H v d := by
  unfold L2.atI at e ⊢
  rw [h.len]
  cases q : ixN ds.length i with
  | none => rw [q] at e; cases e
  | some j =>
    rw [q] at e
    exact h.get2 e
theorem ixR : IxR X (rD2 Z ixD) := by
  intro value slice pins s σ H x y v u Q I rx ry h
  obtain ⟨O, dx, dy, z, hO, sx, sy, e, q⟩ := h
  unfold ixD at e
  split at e
  · rename_i ds i
    cases sy.int
    obtain ⟨a, xs, rfl, h1, c1⟩ := sx.lst
    obtain ⟨d, e1, rfl⟩ := Option.map_eq_some_iff.mp e
    obtain ⟨w, e2, dw⟩ := c1.atI e1
    exact ix_seq value slice pins s σ H _ _ v u Q I rx ry (.inl ⟨a, xs, i, w, rfl, rfl, SqL.of h1, e2, q _ _ (.same dw)⟩)
  · rename_i ds i
    cases sy.int
    obtain ⟨a, xs, rfl, h1, c1, _⟩ := sx.tup
    obtain ⟨d, e1, rfl⟩ := Option.map_eq_some_iff.mp e
    obtain ⟨w, e2, dw⟩ := c1.atI e1
    exact ix_seq value slice pins s σ H _ _ v u Q I rx ry (.inr (.inl ⟨a, xs, i, w, rfl, rfl, SqT.of h1, e2, q _ _ (.same dw)⟩))
  · cases e

/-! ### len, abs, sum, min, max -/
def lenD : List D → Option (D × Bool)
  | [.lst ds] => some (.int ds.length, false)
  | [.tup ds] => some (.int ds.length, false)
  | _ => none
theorem cD_len : CallD Z X (.builtin "len") lenD := by
  intro pins s σ H xs us Q I r h
  obtain ⟨O, ds, z, hO, sh, e, q⟩ := h
  unfold lenD at e
  split at e
  · cases e
    cases sh with
    | cons sx sr =>
      cases sr
      obtain ⟨a, ys, rfl, h1, c1⟩ := sx.lst
      exact call_len_seq pins s σ H _ us Q I r ⟨a, ys, rfl, .inl (SqL.of h1), q _ _ (.same (by rw [c1.len]; exact .int _))⟩
  · cases e
    cases sh with
    | cons sx sr =>
      cases sr
      obtain ⟨a, ys, rfl, h1, c1, _⟩ := sx.tup
      exact call_len_seq pins s σ H _ us Q I r ⟨a, ys, rfl, .inr (SqT.of h1), q _ _ (.same (by rw [c1.len]; exact .int _))⟩
  · cases e
def absD : List D → Option (D × Bool)
  | [.int i] => some (.int (if i < 0 then -i else i), false)
  | _ => none
theorem cD_abs : CallD Z X (.builtin "abs") absD := by
  intro pins s σ H xs us Q I r h
  obtain ⟨O, ds, z, hO, sh, e, q⟩ := h
  unfold absD at e
  split at e
  · cases e
    cases sh with
    | cons sx sr =>
      cases sr
      cases sx.int
      exact call_abs pins s σ H _ us Q I r ⟨_, rfl, q _ _ (.same (.int _))⟩
  · cases e
/-- the ints of data -/
def intsD : List D → Option (List Int)
  | [] => some []
  | .int i :: ds => (intsD ds).map (i :: ·)
  | _ => none
theorem intsD_map (ns : List Int) : intsD (ns.map D.int) = some ns := by
  induction ns with
  | nil => rfl
  | cons n r ih => simp only [List.map_cons, intsD, ih, Option.map_some]
theorem intsD_of : ∀ {ds : List D} {ns : List Int}, intsD ds = some ns → ds = ns.map D.int
  | [], _, e => by cases e; rfl
  | .int i :: ds, ns, e => by
    simp only [intsD] at e
    obtain ⟨r, e1, rfl⟩ := Option.map_eq_some_iff.mp e
    rw [intsD_of e1]
    rfl
  | .non :: _, _, e => by simp [intsD] at e
  | .bl _ :: _, _, e => by simp [intsD] at e
  | .str _ :: _, _, e => by simp [intsD] at e
  | .tup _ :: _, _, e => by simp [intsD] at e
  | .lst _ :: _, _, e => by simp [intsD] at e
  | .dct _ :: _, _, e => by simp [intsD] at e
  | .obj _ _ :: _, _, e => by simp [intsD] at e
  | .ty _ :: _, _, e => by simp [intsD] at e
  | .hnd _ :: _, _, e => by simp [intsD] at e
def maxL : List Int → Int
  | [] => 0
  | [x] => x
  | x :: y :: r => max x (maxL (y :: r))
def minL : List Int → Int
  | [] => 0
  | [x] => x
  | x :: y :: r => min x (minL (y :: r))
theorem maxL_le : ∀ {xs : List Int} {x : Int}, x ∈ xs → x ≤ maxL xs
  | [], _, h => by cases h
  | [y], x, h => by
    simp only [List.mem_singleton] at h
    subst h
    exact Int.le_refl _
  | y :: z :: r, x, h => by
    unfold maxL
    rcases List.mem_cons.mp h with h | h
    · omega
    · have := maxL_le h
      omega
theorem maxL_mem : ∀ {xs : List Int}, xs ≠ [] → maxL xs ∈ xs
  | [], h => absurd rfl h
  | [y], _ => by simp [maxL]
  | y :: z :: r, _ => by
    unfold maxL
    have := maxL_mem (xs := z :: r) (by simp)
    rw [show max y (maxL (z :: r)) = if y ≤ maxL (z :: r) then maxL (z :: r) else y by omega]
    split
    · exact List.mem_cons_of_mem _ this
    · exact List.mem_cons_self
theorem minL_le : ∀ {xs : List Int} {x : Int}, x ∈ xs → minL xs ≤ x
  | [], _, h => by cases h
  | [y], x, h => by
    simp only [List.mem_singleton] at h
    subst h
    exact Int.le_refl _
  | y :: z :: r, x, h => by
    unfold minL
    rcases List.mem_cons.mp h with h | h
    · omega
    · have := minL_le h
      omega
theorem minL_mem : ∀ {xs : List Int}, xs ≠ [] → minL xs ∈ xs
  | [], h => absurd rfl h
  | [y], _ => by simp [minL]
  | y :: z :: r, _ => by
    unfold minL
    have := minL_mem (xs := z :: r) (by simp)
    rw [show min y (minL (z :: r)) = if y ≤ minL (z :: r) then y else minL (z :: r) by omega]
    split
    · exact List.mem_cons_self
    · exact List.mem_cons_of_mem _ this
def sumLD : List D → Option (D × Bool)
  | [.lst ds] => (intsD ds).map fun ns => (.int ns.sum, false)
  | _ => none
theorem cD_sumL (hc : X.calm = true) : CallD Z X (.builtin "sum") sumLD := by
  intro pins s σ H xs us Q I r h
  obtain ⟨O, ds, z, hO, sh, e, q⟩ := h
  unfold sumLD at e
  split at e
  · obtain ⟨ns, e1, rfl⟩ := Option.map_eq_some_iff.mp e
    cases intsD_of e1
    cases sh with
    | cons sx sr =>
      cases sr
      obtain ⟨a, ys, rfl, h1, c1⟩ := sx.lst
      cases c1.ints
      exact cr_sum hc pins s σ H _ us Q I r ⟨a, ns, rfl, SqL.of h1, q _ _ (.same (.int _))⟩
  · cases e
def max2D : List D → Option (D × Bool)
  | [.int i, .int j] => some (.int (if j > i then j else i), false)
  | _ => none
def min2D : List D → Option (D × Bool)
  | [.int i, .int j] => some (.int (if j < i then j else i), false)
  | _ => none
theorem cD_max2 (hc : X.calm = true) : CallD Z X (.builtin "max") max2D := by
  intro pins s σ H xs us Q I r h
  obtain ⟨O, ds, z, hO, sh, e, q⟩ := h
  unfold max2D at e
  split at e
  · cases e
    cases sh with
    | cons sx sr => cases sr with
      | cons sy sr =>
        cases sr
        cases sx.int; cases sy.int
        exact call_max2 hc pins s σ H _ us Q I r ⟨_, _, rfl, q _ _ (.same (.int _))⟩
  · cases e
theorem cD_min2 (hc : X.calm = true) : CallD Z X (.builtin "min") min2D := by
  intro pins s σ H xs us Q I r h
  obtain ⟨O, ds, z, hO, sh, e, q⟩ := h
  unfold min2D at e
  split at e
  · cases e
    cases sh with
    | cons sx sr => cases sr with
      | cons sy sr =>
        cases sr
        cases sx.int; cases sy.int
        exact call_min2 hc pins s σ H _ us Q I r ⟨_, _, rfl, q _ _ (.same (.int _))⟩
  · cases e
def maxLD : List D → Option (D × Bool)
  | [.lst ds] => match intsD ds with
    | some (n :: ns) => some (.int (maxL (n :: ns)), false)
    | _ => none
  | _ => none
theorem cD_maxL (hc : X.calm = true) : CallD Z X (.builtin "max") maxLD := by
  intro pins s σ H xs us Q I r h
  obtain ⟨O, ds, z, hO, sh, e, q⟩ := h
  unfold maxLD at e
  split at e
  · split at e
    · rename_i n ns e1
      cases e
      cases intsD_of e1
      cases sh with
      | cons sx sr =>
        cases sr
        obtain ⟨a, ys, rfl, h1, c1⟩ := sx.lst
        cases c1.ints
        refine cr_max hc pins s σ H _ us Q I r ⟨a, n :: ns, rfl, SqL.of h1, by simp, fun m h2 h3 => ?_⟩
        have : m = maxL (n :: ns) := Int.le_antisymm (maxL_le h2) (h3 _ (maxL_mem (by simp)))
        rw [this]
        exact q _ _ (.same (.int _))
    · cases e
  · cases e
def minLD : List D → Option (D × Bool)
  | [.lst ds] => match intsD ds with
    | some (n :: ns) => some (.int (minL (n :: ns)), false)
    | _ => none
  | _ => none
theorem cD_minL (hc : X.calm = true) : CallD Z X (.builtin "min") minLD := by
  intro pins s σ H xs us Q I r h
  obtain ⟨O, ds, z, hO, sh, e, q⟩ := h
  unfold minLD at e
  split at e
  · split at e
    · rename_i n ns e1
      cases e
      cases intsD_of e1
      cases sh with
      | cons sx sr =>
        cases sr
        obtain ⟨a, ys, rfl, h1, c1⟩ := sx.lst
        cases c1.ints
        refine cr_min hc pins s σ H _ us Q I r ⟨a, n :: ns, rfl, SqL.of h1, by simp, fun m h2 h3 => ?_⟩
        have : m = minL (n :: ns) := Int.le_antisymm (h3 _ (minL_mem (by simp))) (minL_le h2)
        rw [this]
        exact q _ _ (.same (.int _))
    · cases e
  · cases e

/-! ### list, tuple, int, all, any -/
def listD : List D → Option (D × Bool)
  | [.lst ds] => some (.lst ds, true)
  | [.tup ds] => some (.lst ds, true)
  | _ => none
theorem cD_list : CallD Z X (.type "list") listD := by
  intro pins s σ H xs us Q I r h
  obtain ⟨O, ds, z, hO, sh, e, q⟩ := h
  unfold listD at e
  split at e
  · cases e
    cases sh with
    | cons sx sr =>
      cases sr
      obtain ⟨a, ys, rfl, h1, c1⟩ := sx.lst
      exact call_list_of pins s σ H _ us Q I r ⟨a, ys, rfl, .inl (SqL.of h1), fun l hl => q _ _ (.lst hl c1)⟩
  · cases e
    cases sh with
    | cons sx sr =>
      cases sr
      obtain ⟨a, ys, rfl, h1, c1, _⟩ := sx.tup
      exact call_list_of pins s σ H _ us Q I r ⟨a, ys, rfl, .inr (SqT.of h1), fun l hl => q _ _ (.lst hl c1)⟩
  · cases e
def tupleD : List D → Option (D × Bool)
  | [.lst ds] => some (.tup ds, false)
  | [.tup ds] => some (.tup ds, false)
  | _ => none
theorem cD_tuple : CallD Z X (.type "tuple") tupleD := by
  intro pins s σ H xs us Q I r h
  obtain ⟨O, ds, z, hO, sh, e, q⟩ := h
  unfold tupleD at e
  split at e
  · cases e
    cases sh with
    | cons sx sr =>
      cases sr
      obtain ⟨a, ys, rfl, h1, c1⟩ := sx.lst
      exact call_tuple_of pins s σ H _ us Q I r ⟨a, ys, rfl, .inl ⟨SqL.of h1, fun l hl => q _ _ (.tup hO hl c1)⟩⟩
  · cases e
    cases sh with
    | cons sx sr =>
      cases sr
      obtain ⟨a, ys, rfl, h1, c1, n1⟩ := sx.tup
      exact call_tuple_of pins s σ H _ us Q I r ⟨a, ys, rfl, .inr ⟨SqT.of h1, q _ _ (.same (.ref h1 n1 (.tup c1)))⟩⟩
  · cases e
def intD : List D → Option (D × Bool)
  | [.int i] => some (.int i, false)
  | [.bl b] => some (.int (if b then 1 else 0), false)
  | _ => none
theorem cD_int : CallD Z X (.type "int") intD := by
  intro pins s σ H xs us Q I r h
  obtain ⟨O, ds, z, hO, sh, e, q⟩ := h
  unfold intD at e
  split at e
  · cases e
    cases sh with
    | cons sx sr =>
      cases sr
      cases sx.int
      exact call_int1 pins s σ H _ us Q I r (.inl ⟨_, rfl, q _ _ (.same (.int _))⟩)
  · cases e
    cases sh with
    | cons sx sr =>
      cases sr
      cases sx.bl
      exact call_int1 pins s σ H _ us Q I r (.inr ⟨_, rfl, q _ _ (.same (.int _))⟩)
  · cases e
def blsD : List D → Option (List Bool)
  | [] => some []
  | .bl i :: ds => (blsD ds).map (i :: ·)
  | _ => none
theorem blsD_of : ∀ {O : Addr → Prop} {H : Hp} {xs : List V} {ds : List D} {bs : List Bool}, DenA Z O H xs ds → blsD ds = some bs → xs = bs.map V.bl
  | _, _, _, [], _, .nil, e => by cases e; rfl
  | O, H, v :: vs, d :: ds, bs, .cons h r, e => by
    cases d with
    | bl b =>
      simp only [blsD] at e
      obtain ⟨rs, e1, rfl⟩ := Option.map_eq_some_iff.mp e
      rw [(Shows.den h).bl, blsD_of r e1]
      rfl
    | _ => simp [blsD] at e
theorem blsD_map (ns : List Bool) : blsD (ns.map D.bl) = some ns := by
  induction ns with
  | nil => rfl
  | cons n r ih => simp only [List.map_cons, blsD, ih, Option.map_some]
def allD : List D → Option (D × Bool)
  | [.lst ds] => (blsD ds).map fun bs => (.bl (bs.all id), false)
  | _ => none
def anyD : List D → Option (D × Bool)
  | [.lst ds] => (blsD ds).map fun bs => (.bl (bs.any id), false)
  | _ => none
theorem cD_all (hc : X.calm = true) : CallD Z X (.builtin "all") allD := by
  intro pins s σ H xs us Q I r h
  obtain ⟨O, ds, z, hO, sh, e, q⟩ := h
  unfold allD at e
  split at e
  · obtain ⟨ns, e1, rfl⟩ := Option.map_eq_some_iff.mp e
    cases sh with
    | cons sx sr =>
      cases sr
      obtain ⟨a, ys, rfl, h1, c1⟩ := sx.lst
      cases blsD_of c1 e1
      exact cr_all hc pins s σ H _ us Q I r ⟨a, ns, rfl, SqL.of h1, q _ _ (.same (.bl _))⟩
  · cases e
theorem cD_any (hc : X.calm = true) : CallD Z X (.builtin "any") anyD := by
  intro pins s σ H xs us Q I r h
  obtain ⟨O, ds, z, hO, sh, e, q⟩ := h
  unfold anyD at e
  split at e
  · obtain ⟨ns, e1, rfl⟩ := Option.map_eq_some_iff.mp e
    cases sh with
    | cons sx sr =>
      cases sr
      obtain ⟨a, ys, rfl, h1, c1⟩ := sx.lst
      cases blsD_of c1 e1
      exact cr_any hc pins s σ H _ us Q I r ⟨a, ns, rfl, SqL.of h1, q _ _ (.same (.bl _))⟩
  · cases e
end
end FD

/-! F12: changes of own lists: append, extend, pop, x[i] = e, x[i] op= e; x op= e. -/
namespace FD
open PySem PySem.Spec PyProof.Rows L2

/-- a method of slot i's own list: its new items and what it hands back -/
def mutF {T : Type} (i : Nat) (op : List D → List D → Option (List D × D)) (g : AF T) : EF T := fun s => match s.1[i]? with
  | some (.o (.lst _)) => match g s with
    | none => none
    | some (.ex c fs, s1) => some (.ex c fs, s1)
    | some (.ok rs, s1) => match giveAll s1.1 rs with
      | none => none
      | some (ds, τ) => match τ[i]? with
        | some (.o (.lst xs)) => match op xs ds with
          | none => none
          | some (ys, r) => some (.ok (.d r), (τ.set i (.o (.lst ys)), s1.2))
        | _ => none
  | _ => none
/-- the method's rule does what op says -/
def MutD (Z : Wd) (op : List D → List D → Option (List D × D)) (r : V → List V → Hp → VK → Prop) : Prop :=
  ∀ (O : Addr → Prop) (H : Hp) (a : Addr) (xs vs : List V) (dx ds dy : List D) (rd : D), H a = some (.lst xs) → DenA Z O H xs dx → DenA Z O H vs ds → op dx ds = some (dy, rd) →
    ∃ ys w, DenA Z O H ys dy ∧ Den Z O H w rd ∧ ∀ Q : VK, Q w (upd H a (.lst ys)) → r (.ref a) vs H Q
section
variable {Z : Wd} {C : Fx Z} {X : Cx} {ow : Nat → Option Addr} {τ : List Sl} {t : Z.T} {σ : L2.St} {H H' : Hp} {E : Ends}
theorem Rel.ownLst {i : Nat} {ds : List D} (R : C.Rel ow τ t σ H) (e : τ[i]? = some (.o (.lst ds))) : ∃ a xs, ow (i + 1) = some a ∧ σ[i]? = some (some (.ref a)) ∧ H a = some (.lst xs) ∧ DenA Z (C.Hid ow) H xs ds := by
  obtain ⟨a, o, e1, e2, e3, c⟩ := R.slot i _ e
  cases c with
  | lst c => exact ⟨a, _, e1, e2, e3, c⟩
theorem ev_mut {i : Nat} {op : List D → List D → Option (List D × D)} {r : V → List V → Hp → VK → Prop} {g : AF Z.T} {o e : Expr} {es : List Expr} {name : Str} {id : String} {apos cpos : Pos}
    (slot : Slot "list" name id) (hty : typeOf (.builtin id) = pure (.type "method_descriptor")) (hm : MtR X id r) (hd : MutD Z op r) (ho : PE X o (tVar i)) (ha : PA X (e :: es) (tA C g))
    (hbase : attributeBase o name X.env (eval o X.env) = eval o X.env := by rfl)
    (hfew : ((backTo cpos (starEach (e :: es) X.env)).all (fun x => !x.1) && (backToKw cpos (keywordEach [] X.env)).all (fun x => x.1.isSome)
      && decide ((e :: es).length + ([] : List Keyword).length + (if ([] : List Keyword).isEmpty then 0 else 1) < 30)) = true := by rfl)
    (hline : (apos.endLine == cpos.line) = true := by rfl) (hs : starEach (e :: es) X.env = (false, eval e X.env) :: starEach es X.env := by rfl) (hplain : (backTo cpos (starEach es X.env)).any (·.1) = false := by rfl) :
    PE X (.Call (.Attribute o name apos) (e :: es) [] cpos) (tF C (mutF i op g)) := ⟨fun pins s σ H Q I h => (pe_bm PySem.F.plainAttrs_list slot hty hm ho ha hbase hfew hline hs hplain).run pins s σ H Q I (by
  obtain ⟨ow, τ, t, o, s', R, z, e, k⟩ := h
  unfold mutF at e
  split at e
  · rename_i xs0 p0
    obtain ⟨a, ys0, e1, e2, e3, c0⟩ := R.ownLst p0
    refine ⟨.ref a, e2, .inl ⟨rfl, _, SqL.of e3⟩, ?_⟩
    cases q : g (τ, t) with
    | none => rw [q] at e; cases e
    | some w =>
      obtain ⟨o1, s1⟩ := w
      rw [q] at e
      refine ⟨ow, τ, t, R, z, o1, s1, q, ?_⟩
      cases o1 with
      | ex c fs => cases e; exact k
      | ok rs =>
        intro ow1 vs H1 R1 z1 r1 x1
        simp only at e
        split at e
        · cases e
        · rename_i ds τ2 p1
          obtain ⟨ow2, R2, z2, d2, x2⟩ := r1.give R1 z1 p1
          split at e
          · rename_i xs p2
            split at e
            · cases e
            · rename_i ys rd p3
              cases e
              obtain ⟨b, zs, f1, f2, f3, c⟩ := R2.ownLst p2
              rw [e2] at f2
              cases f2
              obtain ⟨us, w, g1, g2, g3⟩ := hd (C.Hid ow2) H1 a zs vs xs ds ys rd f3 c d2 p3
              refine g3 _ ?_
              have u : Ext (C.Hid ow2) H1 (C.Hid ow2) (upd H1 a (.lst us)) := ext_upd (.inr ⟨_, f1⟩)
              exact k ow2 w _ (R2.mutS f1 p2 (fun _ q => nomatch q) (.lst g1)) ⟨z2, g2.ext u⟩ ((x1.trans x2).trans u)
          · cases e
  · cases e)⟩
def appD : List D → List D → Option (List D × D)
  | xs, [d] => if xs.length < LEN then some (xs ++ [d], .non) else none
  | _, _ => none
theorem mutD_append : MutD Z appD rAppend := by
  intro O H a xs vs dx ds dy rd h c1 c2 e
  unfold appD at e
  split at e
  · split at e
    · rename_i hl
      cases e
      cases c2 with
      | cons d r =>
        cases r
        exact ⟨_, .non, c1.app (.one d), .non, fun Q q => ⟨a, xs, _, rfl, rfl, h, by rw [c1.len]; exact line_len hl, q⟩⟩
    · cases e
  · cases e
def extD : List D → List D → Option (List D × D)
  | xs, [.lst ds] => if xs.length + ds.length ≤ LEN then some (xs ++ ds, .non) else none
  | _, _ => none
theorem mutD_extend : MutD Z extD rExtend := by
  intro O H a xs vs dx ds dy rd h c1 c2 e
  unfold extD at e
  split at e
  · split at e
    · rename_i hl
      cases e
      cases c2 with
      | cons d r =>
        cases r
        obtain ⟨b, zs, rfl, h2, c3⟩ := (Shows.den d).lst
        exact ⟨_, .non, c1.app c3, .non, fun Q q => ⟨a, b, xs, zs, rfl, rfl, h, h2, by rw [c1.len, c3.len]; exact len_line hl, q⟩⟩
    · cases e
  · cases e
def popD : List D → List D → Option (List D × D)
  | xs, [.int i] => if small i = true then match seqIndex? i xs.length with
      | none => none
      | some k => match xs[k]? with
        | none => none
        | some d => some (xs.eraseIdx k, d)
    else none
  | _, _ => none
theorem DenA.erase {O : Addr → Prop} {H : Hp} : ∀ {vs : List V} {ds : List D} (n : Nat), DenA Z O H vs ds → DenA Z O H (vs.eraseIdx n) (ds.eraseIdx n)
  | _, _, _, .nil => .nil
  | _, _, 0, .cons _ t => t
  | _, _, n + 1, .cons r t => .cons r (DenA.erase n t)
theorem mutD_pop : MutD Z popD rPopAt := by
  intro O H a xs vs dx ds dy rd h c1 c2 e
  unfold popD at e
  split at e
  · split at e
    · rename_i hs
      split at e
      · cases e
      · rename_i k p1
        split at e
        · cases e
        · rename_i d p2
          cases e
          cases c2 with
          | cons d' r =>
            cases r
            cases den_int d'
            obtain ⟨w, e1, dw⟩ := c1.get2 p2
            unfold small at hs
            have hs := of_decide_eq_true hs
            exact ⟨_, w, c1.erase k, dw, fun Q q => ⟨a, xs, _, k, w, rfl, rfl, h, by omega, by omega, by rw [c1.len]; exact p1, e1, q⟩⟩
    · cases e
  · cases e
theorem ev_append {i : Nat} {g : AF Z.T} {o e : Expr} {apos cpos : Pos} (ho : PE X o (tVar i)) (ha : PA X [e] (tA C g)) (hbase : attributeBase o "append" X.env (eval o X.env) = eval o X.env := by rfl)
    (hline : (apos.endLine == cpos.line) = true := by rfl) (hs : starEach [e] X.env = [(false, eval e X.env)] := by rfl) : PE X (.Call (.Attribute o "append" apos) [e] [] cpos) (tF C (mutF i appD g)) :=
  ev_mut PySem.F.slot_list_append PySem.F.type_list_append mt_append mutD_append ho ha hbase (by rw [hs]; rfl) hline hs (by rfl)
theorem ev_extend {i : Nat} {g : AF Z.T} {o e : Expr} {apos cpos : Pos} (ho : PE X o (tVar i)) (ha : PA X [e] (tA C g)) (hbase : attributeBase o "extend" X.env (eval o X.env) = eval o X.env := by rfl)
    (hline : (apos.endLine == cpos.line) = true := by rfl) (hs : starEach [e] X.env = [(false, eval e X.env)] := by rfl) : PE X (.Call (.Attribute o "extend" apos) [e] [] cpos) (tF C (mutF i extD g)) :=
  ev_mut PySem.F.slot_list_extend PySem.F.type_list_extend mt_extend mutD_extend ho ha hbase (by rw [hs]; rfl) hline hs (by rfl)
theorem ev_pop {i : Nat} {g : AF Z.T} {o e : Expr} {apos cpos : Pos} (ho : PE X o (tVar i)) (ha : PA X [e] (tA C g)) (hbase : attributeBase o "pop" X.env (eval o X.env) = eval o X.env := by rfl)
    (hline : (apos.endLine == cpos.line) = true := by rfl) (hs : starEach [e] X.env = [(false, eval e X.env)] := by rfl) : PE X (.Call (.Attribute o "pop" apos) [e] [] cpos) (tF C (mutF i popD g)) :=
  ev_mut PySem.F.slot_list_pop PySem.F.type_list_pop mt_popAt mutD_pop ho ha hbase (by rw [hs]; rfl) hline hs (by rfl)

/-! ### x[k] = e, x[k] op= e -/
/-- slot i's own list, changed at a place -/
def putAt (i : Nat) (τ : List Sl) (k : D) (d : D) : Option (List Sl) := match τ[i]?, k with
  | some (.o (.lst xs)), .int n => match ixN xs.length n with
    | none => none
    | some j => some (τ.set i (.o (.lst (xs.set j d))))
  | _, _ => none
def setIxF {T : Type} (i : Nat) (fk fe : EF T) : SF T := sbind fe fun r s => match give s.1 r with
  | none => none
  | some (d, τ) => match τ[i]? with
    | some (.o (.lst _)) => sbind fk (fun rk s2 => match peek s2.1 (hold rk) with
      | none => none
      | some k => match putAt i s2.1 k d with
        | none => none
        | some τ2 => some (.nx, (τ2, s2.2))) (τ, s.2)
    | _ => none
theorem KnS.bind {f : EF Z.T} {k : Res → SF Z.T} (h : KnS C (sbind f k) ow τ t H E) (R : C.Rel ow τ t σ H) (h0 : ow 0 = none) :
    tF C f σ H fun v H1 => ∃ ow1 τ1 t1 r, C.Rel ow1 τ1 t1 σ H1 ∧ ResOk C ow1 τ1 σ H1 v r ∧ KnS C (k r) ow1 τ1 t1 H1 E ∧ Ext (C.Hid ow) H (C.Hid ow1) H1 := by
  obtain ⟨o, s', e, h⟩ := h
  unfold sbind at e
  cases q : f (τ, t) with
  | none => rw [q] at e; cases e
  | some z =>
    obtain ⟨o1, s1⟩ := z
    rw [q] at e
    cases o1 with
    | ex c fs =>
      cases e
      exact ⟨ow, τ, t, _, _, R, h0, q, fun ow' d H' R' z x e => h ow' σ d H' R' z x e⟩
    | ok r => exact ⟨ow, τ, t, _, _, R, h0, q, fun ow1 v H1 R1 r1 x1 => ⟨ow1, s1.1, s1.2, r, R1, r1, ⟨o, s', e, h.from x1⟩, x1⟩⟩
theorem Rel.putAt {i : Nat} {k d : D} {τ2 : List Sl} {v w : V} (R : C.Rel ow τ t σ H) (e : FD.putAt i τ k d = some τ2) (hk : Shows Z (C.Hid ow) H v k) (hd : Den Z (C.Hid ow) H w d) :
    ∃ a xs n j, ow (i + 1) = some a ∧ σ[i]? = some (some (.ref a)) ∧ v = .int n ∧ H a = some (.lst xs) ∧ ixN xs.length n = some j ∧ C.Rel ow τ2 t σ (upd H a (.lst (xs.set j w))) := by
  unfold FD.putAt at e
  split at e
  · rename_i xs n p
    split at e
    · cases e
    · rename_i j p2
      cases e
      obtain ⟨a, ys, f1, f2, f3, c⟩ := R.ownLst p
      exact ⟨a, ys, n, j, f1, f2, hk.int, f3, by rw [c.len]; exact p2, R.mutS f1 p (fun _ q => nomatch q) (.lst (c.set j hd))⟩
  · cases e
theorem sv_setIx {i : Nat} {o k e : Expr} {fk fe : EF Z.T} {pos p2 : Pos} (he : PE X e (tF C fe)) (ho : PE X o (tVar i)) (hk : PE X k (tF C fk)) (hs : swapsWithSole [.Subscript o k p2] e pos.line X.env = pure false := by rfl)
    (hw : swappedStores [.Subscript o k p2] e X.env = pure none := by rfl)
    (ha : ∀ v, assign (.Subscript o k p2) X.env v = (do let ov ← holding [v] (eval o X.env); let iv ← holding [v, ov] (eval k X.env); standAt p2; holding [v, ov, iv] (setItem ov iv v); release [v, ov, iv] []) := by intro _; rfl) :
    PS X (.Assign [.Subscript o k p2] e pos) (tS C (setIxF i fk fe)) := ⟨fun pins s σ H E I h => (ps_asg he (pg_sub ho hk set_list ha) hs hw).run pins s σ H E I (by
  obtain ⟨ow, τ, t, R, z, kn⟩ := h
  refine tF_mono (kn.bind R z) fun w H1 ⟨ow1, τ1, t1, r, R1, r1, k1, x1⟩ => ?_
  obtain ⟨o1, s1, e1, k1⟩ := k1
  simp only at e1
  split at e1
  · cases e1
  · rename_i d τ2 p1
    obtain ⟨ow2, R2, z2, d2, x2⟩ := r1.give R1 p1
    split at e1
    · rename_i xs0 p0
      obtain ⟨a0, _, _, f2, _, _⟩ := R2.ownLst p0
      refine ⟨_, f2, ?_⟩
      have k2 : KnS C (sbind fk (fun rk s2 => match peek s2.1 (hold rk) with
        | none => none
        | some k => match putAt i s2.1 k d with
          | none => none
          | some τ2 => some (.nx, (τ2, s2.2)))) ow2 τ2 t1 H1 E := ⟨o1, s1, e1, k1.from x2⟩
      refine tF_mono (k2.bind R2 z2) fun kv H3 ⟨ow3, τ3, t3, rk, R3, r3, k3, x3⟩ => ?_
      obtain ⟨ow4, R4, z4, r4, x4⟩ := r3.hold R3
      obtain ⟨o3, s3, e3, k3⟩ := k3
      simp only at e3
      split at e3
      · cases e3
      · rename_i dk p3
        split at e3
        · cases e3
        · rename_i τ5 p4
          cases e3
          obtain ⟨a, ys, n, j, g1, g2, rfl, g3, g4, R5⟩ := R4.putAt p4 (r4.peek R4 p3) (d2.ext (x3.trans x4))
          rw [f2] at g2
          cases g2
          exact ⟨a0, ys, n, j, rfl, rfl, g3, g4, k3 ow4 σ _ R5 z4 (x4.trans (ext_upd (.inr ⟨_, g1⟩)))⟩
    · cases e1)⟩

/-! ### x op= e -/
def augF {T : Type} (i : Nat) (op : D → D → Option (D × Bool)) (f : EF T) : SF T := fun s => match s.1[i]? with
  | some (.v x) => sbind f (fun r s1 => match peek s1.1 (hold r) with
    | none => none
    | some y => match op x y with
      | some (z, false) => some (.nx, (s1.1.set i (.v z), s1.2))
      | _ => none) s
  | _ => none
def IpD (Z : Wd) (X : Cx) (op : Operator) (g : D → D → Option (D × Bool)) : Prop := PIp X op (rD2 Z g)
def addI : D → D → Option (D × Bool)
  | .int i, .int j => some (.int (i + j), false)
  | _, _ => none
def subI : D → D → Option (D × Bool)
  | .int i, .int j => some (.int (i - j), false)
  | _, _ => none
theorem ipD_add : IpD Z X .Add addI := by
  intro pins s σ H x y v u Q I rx ry h
  obtain ⟨O, dx, dy, z, hO, sx, sy, e, q⟩ := h
  unfold addI at e
  split at e
  · cases e
    cases sx.int; cases sy.int
    exact ip_add pins s σ H _ _ v u Q I rx ry ⟨_, _, rfl, rfl, q _ _ (.same (.int _))⟩
  · cases e
theorem ipD_sub : IpD Z X .Sub subI := by
  intro pins s σ H x y v u Q I rx ry h
  obtain ⟨O, dx, dy, z, hO, sx, sy, e, q⟩ := h
  unfold subI at e
  split at e
  · cases e
    cases sx.int; cases sy.int
    exact ip_sub pins s σ H _ _ v u Q I rx ry ⟨_, _, rfl, rfl, q _ _ (.same (.int _))⟩
  · cases e
theorem sv_aug {i : Nat} {x : Str} {e : Expr} {f : EF Z.T} {op : Operator} {g : D → D → Option (D × Bool)} {pos pos' : Pos} (hN : X.N.Nodup) (hi : X.N[i]? = some x) (hx : Loc X.env.scope x) (he : PE X e (tF C f)) (ho : IpD Z X op g)
    (hf : X.fn x = true ∨ X.env.scope.names.lookup x = some .local := by first | exact .inl rfl | exact .inr rfl) : PS X (.AugAssign (.Name x pos') op e pos) (tS C (augF i g f)) :=
  ⟨fun pins s σ H E I h => (ps_aug hN hi hx he ho hf).run pins s σ H E I (by
  obtain ⟨ow, τ, t, R, z, o, s', e, k⟩ := h
  unfold augF at e
  split at e
  · rename_i dx p
    obtain ⟨v, e1, dv⟩ := R.slot i _ p
    refine ⟨v, e1, ?_⟩
    have kn : KnS C (sbind f (fun r s1 => match peek s1.1 (hold r) with
      | none => none
      | some y => match g dx y with
        | some (z, false) => some (.nx, (s1.1.set i (.v z), s1.2))
        | _ => none)) ow τ t H E := ⟨o, s', e, k⟩
    refine tF_mono (kn.bind R z) fun y H1 ⟨ow1, τ1, t1, r, R1, r1, k1, x1⟩ => ?_
    obtain ⟨ow2, R2, z2, r2, x2⟩ := r1.hold R1
    obtain ⟨o1, s1, e2, k1⟩ := k1
    simp only at e2
    split at e2
    · cases e2
    · rename_i dy p2
      split at e2
      · rename_i dz p3
        cases e2
        refine ⟨_, dx, dy, _, fun p hp => R2.nohid hp, .den (dv.ext (x1.trans x2)), r2.peek R2 p2, p3, fun w H2 gt => ?_⟩
        exact k1 _ _ H2 ((R2.grown gt.1).set gt.2) (drop_zero z2) ((x2.trans gt.1.ext).trans ext_drop)
      · cases e2
  · cases e)⟩

/-! ### while -/
def whileN {T : Type} (c : EF T) (b : SF T) : Nat → SF T
  | 0 => fun _ => none
  | n + 1 => ifF c (fun s => match b s with
    | some (.nx, s1) => whileN c b n s1
    | some (.ct, s1) => whileN c b n s1
    | some (.bk, s1) => some (.nx, s1)
    | r => r) nxF
theorem whileN_noB {c : EF Z.T} {b : SF Z.T} : ∀ (n : Nat) (s : Sg Z.T) (o : SOut) (s' : Sg Z.T), whileN c b n s = some (o, s') → o ≠ .bk ∧ o ≠ .ct := by
  intro n
  induction n with
  | zero => intro s o s' e; cases e
  | succ n ih =>
    intro s o s' e
    unfold whileN ifF sbind at e
    split at e
    · cases e
    · cases e
      exact ⟨nofun, nofun⟩
    · dsimp only at e
      split at e
      · split at e
        · exact ih _ _ _ e
        · exact ih _ _ _ e
        · cases e
          exact ⟨nofun, nofun⟩
        · rename_i h1 h2 h3
          refine ⟨fun z => ?_, fun z => ?_⟩
          · subst z
            exact h3 _ e
          · subst z
            exact h2 _ e
      · cases e
        exact ⟨nofun, nofun⟩
      · cases e
def Ends.calm (E : Ends) : Ends := { nx := E.nx, rt := E.rt, bk := fun _ _ => False, ct := fun _ _ => False }
theorem FinS.calm {s' : Sg Z.T} {o : SOut} (h : FinS C ow H E s' o) (n : o ≠ .bk ∧ o ≠ .ct) : FinS C ow H (Ends.calm E) s' o := by
  cases o with
  | nx => exact h
  | rt r => exact h
  | bk => exact absurd rfl n.1
  | ct => exact absurd rfl n.2
  | ex c fs => exact h
theorem tS_while {c : EF Z.T} {b : SF Z.T} (n : Nat) (h : tS C (whileN c b n) E σ H) : tWhile (tT C c) (tS C b) E σ H := by
  refine ⟨fun m σ H => tS C (whileN c b m) (Ends.calm E) σ H, ⟨n, ?_⟩, fun m σ H w => ?_⟩
  · obtain ⟨ow, τ, t, R, z, o, s', e, k⟩ := h
    exact ⟨ow, τ, t, R, z, o, s', e, k.calm (whileN_noB _ _ _ _ e)⟩
  · cases m with
    | zero =>
      obtain ⟨ow, τ, t, R, z, o, s', e, k⟩ := w
      cases e
    | succ m =>
      refine tT_mono (tS_if w) fun bb H1 q => ?_
      cases bb with
      | false =>
        rw [if_neg (by decide)] at q ⊢
        obtain ⟨ow, τ, t, R, z, o, s', e, k⟩ := q
        cases e
        exact k ow σ H1 R z .refl
      | true =>
        rw [if_pos rfl] at q ⊢
        refine ⟨fun σ' H' => tS C (whileN c b m) (Ends.calm E) σ' H', fun σ' H' p => ⟨m, Nat.lt_succ_self m, p⟩, ?_⟩
        obtain ⟨ow, τ, t, R, z, o, s', e, k⟩ := q
        refine ⟨ow, τ, t, R, z, ?_⟩
        dsimp only at e
        split at e
        · rename_i s1 p
          exact ⟨.nx, s1, p, fun ow1 σ1 H1 R1 z1 x1 => ⟨ow1, s1.1, s1.2, R1, z1, o, s', e, k.from x1⟩⟩
        · rename_i s1 p
          exact ⟨.ct, s1, p, fun ow1 σ1 H1 R1 z1 x1 => ⟨ow1, s1.1, s1.2, R1, z1, o, s', e, k.from x1⟩⟩
        · rename_i s1 p
          cases e
          exact ⟨.bk, _, p, fun ow1 σ1 H1 R1 z1 x1 => k ow1 σ1 H1 R1 z1 x1⟩
        · rename_i n1 n2 n3
          cases o with
          | nx => exact absurd e (n1 s')
          | ct => exact absurd e (n2 s')
          | bk => exact absurd e (n3 s')
          | rt r => exact ⟨.rt r, s', e, k⟩
          | ex c fs => exact ⟨.ex c fs, s', e, k⟩
theorem whileN_mono {T : Type} {c : EF T} {b : SF T} : ∀ {n m : Nat} {s : Sg T} {r : SOut × Sg T}, n ≤ m → whileN c b n s = some r → whileN c b m s = some r := by
  intro n
  induction n with
  | zero => intro m s r _ e; cases e
  | succ n ih =>
    intro m s r hm e
    cases m with
    | zero => omega
    | succ m =>
      unfold whileN ifF sbind at e ⊢
      cases q : c s with
      | none => rw [q] at e; cases e
      | some w =>
        obtain ⟨o1, s1⟩ := w
        rw [q] at e
        cases o1 with
        | ex c fs => exact e
        | ok r1 =>
          simp only at e ⊢
          split at e
          · rename_i p
            split at e
            · rename_i s2 p2
              exact ih (by omega) e
            · rename_i s2 p2
              exact ih (by omega) e
            · rename_i s2 p2
              exact e
            · exact e
          · rename_i p
            exact e
          · cases e
open Classical in
/-- while: as many turns as it takes -/
noncomputable def whileF {T : Type} (c : EF T) (b : SF T) : SF T := fun s => if h : ∃ n r, whileN c b n s = some r then whileN c b h.choose s else none
theorem whileF_of {T : Type} {c : EF T} {b : SF T} {n : Nat} {s : Sg T} {r : SOut × Sg T} (e : whileN c b n s = some r) : whileF c b s = some r := by
  have h : ∃ n r, whileN c b n s = some r := ⟨n, r, e⟩
  unfold whileF
  rw [dif_pos h]
  obtain ⟨r', e'⟩ := h.choose_spec
  rw [e']
  rcases Nat.le_total n h.choose with l | l
  · rw [whileN_mono l e] at e'
    exact e'.symm
  · rw [whileN_mono l e'] at e
    exact e
theorem sv_while {c : Expr} {body : List Stmt} {f : EF Z.T} {b : SF Z.T} {pos : Pos} (hp : PassesOwn (model X.prog X.w) X.A X.env X.xe) (hc : PT X c (tT C f)) (hb : PSs X body (tS C b)) : PS X (.While c body [] pos) (tS C (whileF f b)) :=
  ⟨fun pins s σ H E I h => (ps_while hp hc hb).run pins s σ H E I (by
    obtain ⟨ow, τ, t, R, z, o, s', e, k⟩ := h
    have e0 := e
    unfold whileF at e
    split at e
    · rename_i hh
      exact tS_while hh.choose ⟨ow, τ, t, R, z, o, s', e, k⟩
    · cases e)⟩
end
end FD

/-! F13: assignments to targets, of two and three names at once. -/
namespace FD
open PySem PySem.Spec PyProof.Rows L2

def asgF {T : Type} (g : GF) (f : EF T) : SF T := sbind f fun r s => match give s.1 r with
  | none => none
  | some (d, τ) => match g d τ with
    | none => none
    | some τ1 => some (.nx, (τ1, s.2))
def lstG (n : Nat) (h : GFs) : GF := fun d τ => match d with
  | .lst ds => if ds.length = n then h ds τ else none
  | _ => none
/-- a, b = e, f -/
def parF {T : Type} (i j : Nat) (f g : EF T) : SF T := sbind f fun r s => match give s.1 r with
  | none => none
  | some (d, τ) => sbind g (fun r2 s2 => match storeAt j s2.1 r2 with
    | none => none
    | some τ2 => some (.nx, (τ2.set i (.v d), s2.2))) (τ, s.2)
/-- a, b = e, [] -/
def parNF {T : Type} (i j : Nat) (f : EF T) : SF T := sbind f fun r s => match storeAt i s.1 r with
  | none => none
  | some τ => some (.nx, (τ.set j (.o (.lst [])), s.2))
/-- a, b, c = e, f, g -/
def par3F {T : Type} (i j k : Nat) (f g h : EF T) : SF T := sbind f fun r s => match give s.1 r with
  | none => none
  | some (d, τ) => sbind g (fun r2 s2 => match give s2.1 r2 with
    | none => none
    | some (d2, τ2) => sbind h (fun r3 s3 => match storeAt k s3.1 r3 with
      | none => none
      | some τ3 => some (.nx, ((τ3.set j (.v d2)).set i (.v d), s3.2))) (τ2, s2.2)) (τ, s.2)
section
variable {Z : Wd} {C : Fx Z} {X : Cx} {ow : Nat → Option Addr} {τ : List Sl} {t : Z.T} {σ : L2.St} {H H' : Hp} {E : Ends} {S : List Nat}
theorem sv_asg {tg e : Expr} {f : EF Z.T} {g : GF} {pos : Pos} (he : PE X e (tF C f)) (hg : PG X tg (tG C S g)) (hs : swapsWithSole [tg] e pos.line X.env = pure false := by rfl) (hw : swappedStores [tg] e X.env = pure none := by rfl) (h1 : (assignEach [tg] X.env).map (·.2) = [assign tg X.env] := by rfl) :
    PS X (.Assign [tg] e pos) (tS C (asgF g f)) := ⟨fun pins s σ H E I h => (ps_asg he hg hs hw h1).run pins s σ H E I (by
  obtain ⟨ow, τ, t, R, z, kn⟩ := h
  refine tF_mono (kn.bind R z) fun v H1 ⟨ow1, τ1, t1, r, R1, r1, k1, x1⟩ => ?_
  obtain ⟨o1, s1, e1, k1⟩ := k1
  simp only at e1
  split at e1
  · cases e1
  · rename_i d τ2 p1
    obtain ⟨ow2, R2, z2, d2, x2⟩ := r1.give R1 p1
    split at e1
    · cases e1
    · rename_i τ3 p2
      cases e1
      exact ⟨ow2, τ2, t1, d, τ3, R2, z2, d2, p2, fun ow3 σ3 R3 z3 x3 _ => k1 ow3 σ3 H1 R3 z3 (x2.trans x3)⟩)⟩
theorem gv_lst {es : List Expr} {k n : Nat} {h : GFs} {pos : Pos} (hc : X.calm = true) (q : PGs X es (tGs C S h)) (hn : (assignEach es X.env).length = n := by rfl) (hst : (assignEach es X.env).findIdx? (·.1) = none := by rfl) : PG X (.Tuple es k pos) (tG C S (lstG n h)) := ⟨fun pins s σ H v u Q I r w => (pg_lst (n := n) hc q hn hst).run pins s σ H v u Q I r (by
  obtain ⟨ow, τ, t, d, τ', R, z, dn, e, k⟩ := w
  unfold lstG at e
  split at e
  · split at e
    · rename_i hl
      obtain ⟨a, xs, rfl, h1, c⟩ := (Shows.den dn).lst
      exact ⟨a, xs, rfl, SqL.of h1, c.len.trans hl, ow, τ, t, _, τ', R, z, c, e, k⟩
    · cases e
  · cases e)⟩
theorem sv_par {i j : Nat} {x y : Str} {a b : Expr} {f g : EF Z.T} {px py pt pos : Pos} {kt k2 pt2} (hc : X.calm = true) (hN : X.N.Nodup) (hi : X.N[i]? = some x) (hj : X.N[j]? = some y) (hij : i ≠ j)
    (hx : X.env.scope.names.lookup x = some .local) (hy : X.env.scope.names.lookup y = some .local) (ha : PE X a (tF C f)) (hb : PE X b (tF C g))
    (hw : swappedStores [.Tuple [.Name x px, .Name y py] kt pt] (.Tuple [a, b] k2 pt2) X.env = pure (some [x, y]))
    (hs : swapsWithSole [.Tuple [.Name x px, .Name y py] kt pt] (.Tuple [a, b] k2 pt2) pos.line X.env = pure false := by rfl)
    (h1 : starEach [a, b] X.env = (false, eval a X.env) :: starEach [b] X.env := by rfl) (h2 : starEach [b] X.env = (false, eval b X.env) :: starEach [] X.env := by rfl) :
    PS X (.Assign [.Tuple [.Name x px, .Name y py] kt pt] (.Tuple [a, b] k2 pt2) pos) (tS C (parF i j f g)) :=
  ⟨fun pins s σ H E I h => (ps_par hc hN hi hj hij hx hy (pa_cons ha (pa_cons hb pa_nil h2) h1) hw hs).run pins s σ H E I (by
    obtain ⟨ow, τ, t, R, z, kn⟩ := h
    refine tF_mono (kn.bind R z) fun v H1 ⟨ow1, τ1, t1, r, R1, r1, k1, x1⟩ => ?_
    obtain ⟨o1, s1, e1, k1⟩ := k1
    simp only at e1
    split at e1
    · cases e1
    · rename_i d τ2 p1
      obtain ⟨ow2, R2, z2, d2, x2⟩ := r1.give R1 p1
      have kn2 : KnS C (sbind g (fun r2 s2 => match storeAt j s2.1 r2 with
        | none => none
        | some τ2 => some (.nx, (τ2.set i (.v d), s2.2)))) ow2 τ2 t1 H1 E := ⟨o1, s1, e1, k1.from x2⟩
      refine tF_mono (kn2.bind R2 z2) fun w H3 ⟨ow3, τ3, t3, r3, R3, q3, k3, x3⟩ => ?_
      obtain ⟨o3, s3, e3, k3⟩ := k3
      simp only at e3
      split at e3
      · cases e3
      · rename_i τ4 p3
        cases e3
        obtain ⟨ow4, R4, z4, x4⟩ := R3.store q3 p3
        have R5 := R4.set (i := i) (d2.ext (x3.trans x4))
        rw [List.set_comm _ _ (Ne.symm hij)] at R5
        exact ⟨v, w, rfl, k3 _ _ H3 R5 (drop_zero z4) (x4.trans ext_drop)⟩)⟩
theorem sv_parN {i j : Nat} {x y : Str} {a : Expr} {f : EF Z.T} {px py pt pos pe : Pos} {kt k2 pt2} (hc : X.calm = true) (hN : X.N.Nodup) (hi : X.N[i]? = some x) (hj : X.N[j]? = some y) (hij : i ≠ j)
    (hx : X.env.scope.names.lookup x = some .local) (hy : X.env.scope.names.lookup y = some .local) (ha : PE X a (tF C f))
    (hw : swappedStores [.Tuple [.Name x px, .Name y py] kt pt] (.Tuple [a, .List [] pe] k2 pt2) X.env = pure (some [x, y]))
    (hs : swapsWithSole [.Tuple [.Name x px, .Name y py] kt pt] (.Tuple [a, .List [] pe] k2 pt2) pos.line X.env = pure false := by rfl)
    (h1 : starEach [a, .List [] pe] X.env = (false, eval a X.env) :: starEach [.List [] pe] X.env := by rfl) :
    PS X (.Assign [.Tuple [.Name x px, .Name y py] kt pt] (.Tuple [a, .List [] pe] k2 pt2) pos) (tS C (parNF i j f)) :=
  ⟨fun pins s σ H E I h => (ps_par hc hN hi hj hij hx hy (pa_cons ha (pa_cons (pe_lst pa_nil) pa_nil) h1) hw hs).run pins s σ H E I (by
    obtain ⟨ow, τ, t, R, z, kn⟩ := h
    refine tF_mono (kn.bind R z) fun v H1 ⟨ow1, τ1, t1, r, R1, r1, k1, x1⟩ => ?_
    obtain ⟨o1, s1, e1, k1⟩ := k1
    simp only at e1
    split at e1
    · cases e1
    · rename_i τ2 p1
      cases e1
      obtain ⟨ow2, R2, z2, x2⟩ := R1.store r1 p1
      refine ⟨Nat.zero_le _, fun p hp => ?_⟩
      have R3 := R2.pend (o := .lst []) z2 hp (fun _ q => nomatch q)
      have R4 := R3.setOwn (i := j) (d := .lst []) put_same upd_same (.lst .nil)
      refine ⟨v, _, rfl, k1 _ _ _ R4 ?_ ((x2.trans (ext_put hp)).trans ext_move)⟩
      unfold move
      rw [if_neg (by omega), if_pos rfl])⟩
end
end FD

/-! F14: sums, greatest and least of tuples of ints; list(range(..)); isinstance. -/
namespace FD
open PySem PySem.Spec PyProof.Rows L2
section
variable {prog : Program} {w : World} {A : Around} {E : Value → Shared → Prop} {s : Shared} {l : Addr} {xs : Array (Int × Tok)}
theorem sum_intTup {Q : Value → Shared → Prop} (hh : A.handled = none) (hl : s.heap.IsTuple l (intItems xs))
    (h : ∀ h' tk t', (∀ b o, s.heap.get? b = some o → h'.get? b = some o) → Q (.int (preSum (numAt xs) xs.size) t') { s with heap := h', toks := tk }) : wpAny (model prog w) A (call (.builtin "sum") [.ref l]) Q E s := by
  have hlt : l < s.heap.objs.size := by
    obtain ⟨o, e, _⟩ := hl
    exact Heap.lt_size e
  refine call_sum_walkG (wpAny_pyIter_tuple hl ?_)
  refine ⟨s.heap.objs.size, [s.heap.objs.size, l], [s.heap.objs.size], _, _, _, numAt xs, rfl, Walks.tuple (A := A.in1) hh _ l (Nat.ne_of_lt hlt) (intItems xs), ⟨⟨_, Heap.get?_push_size _ rfl, rfl, rfl⟩, hl.push _⟩, fun c hc => ?_, fun _ _ => intItems_at, fun h' tk t' hk => ?_⟩
  · show c < (s.heap.push _).objs.size
    rw [Heap.size_push]
    rcases List.mem_cons.mp hc with rfl | hc
    · exact Nat.lt_succ_self _
    · rcases List.mem_cons.mp hc with rfl | hc
      · exact Nat.lt_succ_of_lt hlt
      · cases hc
  · have := h h' tk t' fun b o e => hk b o (fun hm => absurd (List.mem_singleton.mp hm) (Nat.ne_of_lt (Heap.lt_size e))) (Heap.get?_push_of_some _ e)
    simpa [intItems] using this
theorem max_intTup {Q : Value → Shared → Prop} (hh : A.handled = none) (hl : s.heap.IsTuple l (intItems xs)) (hne : 0 < xs.size)
    (h : ∀ v h' tk, (intItems xs)[argBest (fun i j => decide (numAt xs i > numAt xs j)) (xs.size - 1)]? = some v → (∀ b o, s.heap.get? b = some o → h'.get? b = some o) → Q v { s with heap := h', toks := tk }) :
    wpAny (model prog w) A (call (.builtin "max") [.ref l]) Q E s := by
  have hlt : l < s.heap.objs.size := by
    obtain ⟨o, e, _⟩ := hl
    exact Heap.lt_size e
  refine call_max_walk (wpAny_pyIter_tuple hl ?_)
  refine ⟨s.heap.objs.size, [s.heap.objs.size, l], [s.heap.objs.size], _, _, _, _, rfl, Walks.tuple (A := A.in1) hh _ l (Nat.ne_of_lt hlt) (intItems xs), ⟨⟨_, Heap.get?_push_size _ rfl, rfl, rfl⟩, hl.push _⟩, fun c hc => ?_, by simpa [intItems] using hne, CmpOf.ints_gt (numAt xs) (fun _ _ => intItems_at), fun v h' tk hP hk => ?_⟩
  · show c < (s.heap.push _).objs.size
    rw [Heap.size_push]
    rcases List.mem_cons.mp hc with rfl | hc
    · exact Nat.lt_succ_self _
    · rcases List.mem_cons.mp hc with rfl | hc
      · exact Nat.lt_succ_of_lt hlt
      · cases hc
  · refine h v h' tk (by simpa [intItems] using hP) fun b o e => hk b o (fun hm => absurd (List.mem_singleton.mp hm) (Nat.ne_of_lt (Heap.lt_size e))) (Heap.get?_push_of_some _ e)
theorem min_intTup {Q : Value → Shared → Prop} (hh : A.handled = none) (hl : s.heap.IsTuple l (intItems xs)) (hne : 0 < xs.size)
    (h : ∀ v h' tk, (intItems xs)[argBest (fun i j => decide (numAt xs i < numAt xs j)) (xs.size - 1)]? = some v → (∀ b o, s.heap.get? b = some o → h'.get? b = some o) → Q v { s with heap := h', toks := tk }) :
    wpAny (model prog w) A (call (.builtin "min") [.ref l]) Q E s := by
  have hlt : l < s.heap.objs.size := by
    obtain ⟨o, e, _⟩ := hl
    exact Heap.lt_size e
  refine call_min_walk (wpAny_pyIter_tuple hl ?_)
  refine ⟨s.heap.objs.size, [s.heap.objs.size, l], [s.heap.objs.size], _, _, _, _, rfl, Walks.tuple (A := A.in1) hh _ l (Nat.ne_of_lt hlt) (intItems xs), ⟨⟨_, Heap.get?_push_size _ rfl, rfl, rfl⟩, hl.push _⟩, fun c hc => ?_, by simpa [intItems] using hne, CmpOf.ints_lt (numAt xs) (fun _ _ => intItems_at), fun v h' tk hP hk => ?_⟩
  · show c < (s.heap.push _).objs.size
    rw [Heap.size_push]
    rcases List.mem_cons.mp hc with rfl | hc
    · exact Nat.lt_succ_self _
    · rcases List.mem_cons.mp hc with rfl | hc
      · exact Nat.lt_succ_of_lt hlt
      · cases hc
  · refine h v h' tk (by simpa [intItems] using hP) fun b o e => hk b o (fun hm => absurd (List.mem_singleton.mp hm) (Nat.ne_of_lt (Heap.lt_size e))) (Heap.get?_push_of_some _ e)
end
section
variable {Z : Wd} {C : Fx Z} {X : Cx}
theorem ints_items {its : List Value} {ns : List Int} (hi : IntsAre its ns) : ∃ xs, its.toArray = intItems xs ∧ xs.size = ns.length ∧ preSum (numAt xs) xs.size = ns.sum ∧ (xs.toList.map (·.1)) = ns := by
  obtain ⟨xs, e⟩ := hi.allInts.items
  have hn : numsOf (intItems xs).toList = ns := by rw [← e]; exact hi.numsOf
  rw [nums_intItems] at hn
  refine ⟨xs, e, ?_, ?_, hn⟩
  · rw [← hn]
    simp
  · rw [preSum_eq, List.take_of_length_le (by simp), hn]
def sumD : List D → Option (D × Bool)
  | [.lst ds] => (intsD ds).map fun ns => (.int ns.sum, false)
  | [.tup ds] => (intsD ds).map fun ns => (.int ns.sum, false)
  | _ => none
theorem cD_sum (hc : X.calm = true) : CallD Z X (.builtin "sum") sumD := by
  intro pins s σ H xs us Q I r h
  obtain ⟨O, ds, z, hO, sh, e, q⟩ := h
  unfold sumD at e
  split at e
  · exact cD_sumL hc pins s σ H xs us Q I r ⟨O, _, z, hO, sh, e, q⟩
  · obtain ⟨ns, e1, rfl⟩ := Option.map_eq_some_iff.mp e
    cases intsD_of e1
    cases sh with
    | cons sx sr =>
      cases sr
      obtain ⟨a, ys, rfl, h1, c1, _⟩ := sx.tup
      cases c1.ints
      obtain ⟨its, rv, ht, _⟩ := I.tuple (SqT.of h1)
      obtain ⟨zs, e2, e3, e4, _⟩ := ints_items rv.ints
      rw [Vals.ref1 r]
      have ht : s.heap.IsTuple a its.toArray := ht
      rw [e2] at ht
      refine sum_intTup (I.ok.hd hc) ht fun h' tk t' hk => ⟨.int _, H, I.kept hk, ⟨_, rfl⟩, ?_⟩
      rw [e4]
      exact q _ _ (.same (.int _))
  · cases e
def maxD : List D → Option (D × Bool)
  | [.lst ds] => maxLD [.lst ds]
  | [.tup ds] => match intsD ds with
    | some (n :: ns) => some (.int (maxL (n :: ns)), false)
    | _ => none
  | _ => none
def minD : List D → Option (D × Bool)
  | [.lst ds] => minLD [.lst ds]
  | [.tup ds] => match intsD ds with
    | some (n :: ns) => some (.int (minL (n :: ns)), false)
    | _ => none
  | _ => none
theorem cD_max (hc : X.calm = true) : CallD Z X (.builtin "max") maxD := by
  intro pins s σ H xs us Q I r h
  obtain ⟨O, ds, z, hO, sh, e, q⟩ := h
  unfold maxD at e
  split at e
  · exact cD_maxL hc pins s σ H xs us Q I r ⟨O, _, z, hO, sh, e, q⟩
  · split at e
    · rename_i n ns e1
      cases e
      cases intsD_of e1
      cases sh with
      | cons sx sr =>
        cases sr
        obtain ⟨a, ys, rfl, h1, c1, _⟩ := sx.tup
        cases c1.ints
        obtain ⟨its, rv, ht, _⟩ := I.tuple (SqT.of h1)
        obtain ⟨zs, e2, e3, e4, e5⟩ := ints_items rv.ints
        rw [Vals.ref1 r]
        have ht : s.heap.IsTuple a its.toArray := ht
        rw [e2] at ht
        refine max_intTup (I.ok.hd hc) ht (by rw [e3]; simp) fun v h' tk hv hk => ?_
        obtain ⟨t, rfl⟩ := intItems_at hv
        obtain ⟨h1, h2⟩ := argBest_gt (numAt zs) (zs.size - 1)
        refine ⟨.int _, H, I.kept hk, ⟨_, rfl⟩, ?_⟩
        have hm : numAt zs (argBest (fun i j => decide (numAt zs i > numAt zs j)) (zs.size - 1)) = maxL (n :: ns) := by
          refine Int.le_antisymm ?_ ?_
          · refine maxL_le ?_
            rw [← e5, numAt_eq]
            exact PySem.getD_mem (by rw [List.length_map, Array.length_toList]; have : zs.size = (n :: ns).length := e3; simp only [List.length_cons] at this; omega)
          · have hmem := maxL_mem (xs := n :: ns) (by simp)
            rw [← e5] at hmem
            obtain ⟨j, hj, ej⟩ := mem_getD hmem
            have := h2 j (by rw [List.length_map, Array.length_toList] at hj; omega)
            rw [e5] at ej
            rw [numAt_eq zs j, e5] at this
            omega
        rw [hm]
        exact q _ _ (.same (.int _))
    · cases e
  · cases e
end
end FD

/-! F15: small rules: isinstance, list(range(..)), in, y = [..]. -/
namespace FD
open PySem PySem.Spec PyProof.Rows L2
theorem takes_dead {Z : Wd} {X : Cx} {C : Fx Z} (w : C.W = dead) : Takes X C.W := by
  rw [w]
  exact takes0
theorem runF_len {T : Type} {N n : Nat} {f : SF T} {ds : List D} {t : T} {o : FOut × T} (h : runF N n f ds t = some o) : ds.length = n := by
  unfold runF at h
  split at h
  · assumption
  · cases h
section
variable {Z : Wd} {C : Fx Z} {X : Cx}
theorem cD_min (hc : X.calm = true) : CallD Z X (.builtin "min") minD := by
  intro pins s σ H xs us Q I r h
  obtain ⟨O, ds, z, hO, sh, e, q⟩ := h
  unfold minD at e
  split at e
  · exact cD_minL hc pins s σ H xs us Q I r ⟨O, _, z, hO, sh, e, q⟩
  · split at e
    · rename_i n ns e1
      cases e
      cases intsD_of e1
      cases sh with
      | cons sx sr =>
        cases sr
        obtain ⟨a, ys, rfl, h1, c1, _⟩ := sx.tup
        cases c1.ints
        obtain ⟨its, rv, ht, _⟩ := I.tuple (SqT.of h1)
        obtain ⟨zs, e2, e3, e4, e5⟩ := ints_items rv.ints
        rw [Vals.ref1 r]
        have ht : s.heap.IsTuple a its.toArray := ht
        rw [e2] at ht
        refine min_intTup (I.ok.hd hc) ht (by rw [e3]; simp) fun v h' tk hv hk => ?_
        obtain ⟨t, rfl⟩ := intItems_at hv
        obtain ⟨h1, h2⟩ := argBest_lt (numAt zs) (zs.size - 1)
        refine ⟨.int _, H, I.kept hk, ⟨_, rfl⟩, ?_⟩
        have hm : numAt zs (argBest (fun i j => decide (numAt zs i < numAt zs j)) (zs.size - 1)) = minL (n :: ns) := by
          refine Int.le_antisymm ?_ ?_
          · have hmem := minL_mem (xs := n :: ns) (by simp)
            rw [← e5] at hmem
            obtain ⟨j, hj, ej⟩ := mem_getD hmem
            have := h2 j (by rw [List.length_map, Array.length_toList] at hj; omega)
            rw [e5] at ej
            rw [numAt_eq zs j, e5] at this
            omega
          · refine minL_le ?_
            rw [← e5, numAt_eq]
            exact PySem.getD_mem (by rw [List.length_map, Array.length_toList]; have : zs.size = (n :: ns).length := e3; simp only [List.length_cons] at this; omega)
        rw [hm]
        exact q _ _ (.same (.int _))
    · cases e
  · cases e
/-! ### isinstance -/
def tyN : D → Option String
  | .non => some "NoneType"
  | .bl _ => some "bool"
  | .int _ => some "int"
  | .str _ => some "str"
  | .tup _ => some "tuple"
  | .lst _ => some "list"
  | .dct _ => some "dict"
  | _ => none
def kinds : List String := ["int", "bool", "str", "list", "tuple", "dict"]
def isA (t T : String) : Bool := t == T || (t == "bool" && T == "int")
def isAny (t : String) : List D → Option Bool
  | [] => some false
  | .ty T :: r => if T ∈ kinds then (isAny t r).map (isA t T || ·) else none
  | _ => none
def isiD : List D → Option (D × Bool)
  | [x, .ty T] => match tyN x with
    | some t => if T ∈ kinds then some (.bl (isA t T), false) else none
    | none => none
  | [x, .tup Ts] => match tyN x with
    | some t => (isAny t Ts).map fun b => (.bl b, false)
    | none => none
  | _ => none
theorem tyN_ok {K : PySem.W.Frag} {O : Addr → Prop} {H : Hp} {v : V} {d : D} {t : String} (s : Shows Z O H v d) (e : tyN d = some t) : TyX K H v (.type t) := by
  unfold tyN at e
  split at e
  · cases e; cases s.non; exact .base .non
  · cases e; cases s.bl; exact .base (.bl _)
  · cases e; cases s.int; exact .base (.int _)
  · cases e; cases s.str; exact .base (.str _)
  · cases e
    obtain ⟨a, xs, rfl, h, _⟩ := s.tup
    exact .base (.tup h)
  · cases e
    obtain ⟨a, xs, rfl, h, _⟩ := s.lst
    exact .base (.lst h)
  · cases e
    obtain ⟨a, xs, rfl, h, _⟩ := s.dct
    exact .base (.dK h)
  · cases e
theorem kit_is {K : PySem.W.Frag} {d : D} {t T : String} (e : tyN d = some t) (h : T ∈ kinds) : PySem.W.kitOne K (.type t) (.type T) = some (isA t T) := by
  have cases6 : ∀ {Pr : String → Prop}, (∀ S ∈ kinds, Pr S) → Pr T := fun z => z T h
  refine kit_ty ?_
  unfold tyN at e
  split at e
  · cases e; exact cases6 (Pr := fun T => kitB "NoneType" T = some (isA "NoneType" T)) (by decide +kernel)
  · cases e; exact cases6 (Pr := fun T => kitB "bool" T = some (isA "bool" T)) (by decide +kernel)
  · cases e; exact cases6 (Pr := fun T => kitB "int" T = some (isA "int" T)) (by decide +kernel)
  · cases e; exact cases6 (Pr := fun T => kitB "str" T = some (isA "str" T)) (by decide +kernel)
  · cases e; exact cases6 (Pr := fun T => kitB "tuple" T = some (isA "tuple" T)) (by decide +kernel)
  · cases e; exact cases6 (Pr := fun T => kitB "list" T = some (isA "list" T)) (by decide +kernel)
  · cases e; exact cases6 (Pr := fun T => kitB "dict" T = some (isA "dict" T)) (by decide +kernel)
  · cases e
theorem kit_any {K : PySem.W.Frag} {O : Addr → Prop} {H : Hp} {d : D} {t : String} (e : tyN d = some t) : ∀ {vs : List V} {Ts : List D} {b : Bool}, DenA Z O H vs Ts → isAny t Ts = some b → ∃ us, Paired ClsV vs us ∧ PySem.W.kitAny K (.type t) us = some b
  | _, [], _, .nil, h => by
    cases h
    exact ⟨[], .nil, kitAny_nil⟩
  | _, T :: Ts, b, .cons hv hr, h => by
    cases T with
    | ty T =>
      unfold isAny at h
      split at h
      · rename_i hT
        obtain ⟨b1, h1, rfl⟩ := Option.map_eq_some_iff.mp h
        obtain ⟨us, p, k⟩ := kit_any e hr h1
        cases (Shows.den hv).ty
        refine ⟨.type T :: us, .cons (.ty T) p, kitAny_cons (kit_is e hT) (fun z => ?_) (fun z => ?_)⟩
        · rw [z, Bool.false_or]
          exact k
        · rw [z, Bool.true_or]
      · cases h
    | _ => simp [isAny] at h
theorem cD_isi : CallD Z X (.builtin "isinstance") isiD := by
  intro pins s σ H xs us Q I r h
  obtain ⟨O, ds, z, hO, sh, e, q⟩ := h
  unfold isiD at e
  split at e
  · split at e
    · rename_i t e1
      split at e
      · rename_i hT
        cases e
        cases sh with
        | cons sx sr => cases sr with
          | cons sy sr =>
            cases sr
            cases sy.ty
            exact call_isi pins s σ H _ us Q I r ⟨_, .ty _, .type t, .type _, _, rfl, .ty _, tyN_ok sx e1, kit_is e1 hT, q _ _ (.same (.bl _))⟩
      · cases e
    · cases e
  · split at e
    · rename_i t e1
      obtain ⟨b, e2, rfl⟩ := Option.map_eq_some_iff.mp e
      cases sh with
      | cons sx sr => cases sr with
        | cons sy sr =>
          cases sr
          obtain ⟨a, ys, rfl, h1, c1, _⟩ := sy.tup
          obtain ⟨ws, p, k⟩ := kit_any e1 c1 e2
          exact call_isiT pins s σ H _ us Q I r ⟨_, a, ys, .type t, ws, b, rfl, h1, p, tyN_ok sx e1, k, q _ _ (.same (.bl _))⟩
    · cases e
  · cases e

/-! ### in, not in -/
def inD : D → D → Option (D × Bool)
  | x, .lst ds => if okD 63 x = true ∧ okAll 63 ds = true then some (.bl (ds.any fun z => eqB z x), false) else none
  | x, .tup ds => if okD 63 x = true ∧ okAll 63 ds = true then some (.bl (ds.any fun z => eqB z x), false) else none
  | _, _ => none
def notInD : D → D → Option (D × Bool)
  | x, .lst ds => if okD 63 x = true ∧ okAll 63 ds = true then some (.bl (!ds.any fun z => eqB z x), false) else none
  | x, .tup ds => if okD 63 x = true ∧ okAll 63 ds = true then some (.bl (!ds.any fun z => eqB z x), false) else none
  | _, _ => none
def rInTD (K : PySem.W.Frag) : R2 := fun x y H Q => ∃ d ds, Dp K H x d ∧ Dp K H y (.tuple ds) ∧ SeqAt.shaped d = true ∧ SeqAt.shaped (.tuple ds) = true ∧ Q (.bl (ds.any fun z => PyData.eqv z d)) H
def rNotInTD (K : PySem.W.Frag) : R2 := fun x y H Q => ∃ d ds, Dp K H x d ∧ Dp K H y (.tuple ds) ∧ SeqAt.shaped d = true ∧ SeqAt.shaped (.tuple ds) = true ∧ Q (.bl (!ds.any fun z => PyData.eqv z d)) H
theorem op_inTD {X : Cx} (hu : X.A.units + 65 < cLine) : OpR X (compareOp .In) (rInTD X.K) := by
  intro pins s σ H x y v u Q I rx ry h
  obtain ⟨d, ds, hd, he, sd, se, q⟩ := h
  obtain ⟨as, r1⟩ := Dp.reads I d x v hd rx
  obtain ⟨bs, r2⟩ := Dp.reads I (.tuple ds) y u he ry
  exact SeqAt.in_tuple_reads r2 r1 (by have := SeqAt.canLay_of_shaped se; simpa [PyData.canLay0] using this) (SeqAt.canLay_of_shaped sd) (room_in_shaped sd hu) ⟨.bl _, H, I, rfl, q⟩
theorem op_notInTD {X : Cx} (hu : X.A.units + 65 < cLine) : OpR X (compareOp .NotIn) (rNotInTD X.K) := by
  intro pins s σ H x y v u Q I rx ry h
  obtain ⟨d, ds, hd, he, sd, se, q⟩ := h
  obtain ⟨as, r1⟩ := Dp.reads I d x v hd rx
  obtain ⟨bs, r2⟩ := Dp.reads I (.tuple ds) y u he ry
  exact SeqAt.notIn_tuple_reads r2 r1 (by have := SeqAt.canLay_of_shaped se; simpa [PyData.canLay0] using this) (SeqAt.canLay_of_shaped sd) (room_in_shaped sd hu) ⟨.bl _, H, I, rfl, q⟩
mutual
theorem okD_up : ∀ {n m : Nat} {d : D}, n ≤ m → okD n d = true → okD m d = true
  | _, _, .non, _, _ => by simp [okD]
  | _, _, .bl _, _, _ => by simp [okD]
  | _, _, .int _, _, _ => by simp [okD]
  | n, m, .str _, _, h => by cases n <;> cases m <;> simpa [okD] using h
  | 0, _, .tup _, _, h => by simp [okD] at h
  | 0, _, .lst _, _, h => by simp [okD] at h
  | n + 1, 0, .tup _, l, _ => by omega
  | n + 1, 0, .lst _, l, _ => by omega
  | n + 1, m + 1, .tup ds, l, h => by
    simp only [okD] at h ⊢
    exact okAll_up (by omega) h
  | n + 1, m + 1, .lst ds, l, h => by
    simp only [okD] at h ⊢
    exact okAll_up (by omega) h
  | n, _, .dct _, _, h => by cases n <;> simp [okD] at h
  | n, _, .obj _ _, _, h => by cases n <;> simp [okD] at h
  | n, _, .ty _, _, h => by cases n <;> simp [okD] at h
  | n, _, .hnd _, _, h => by cases n <;> simp [okD] at h
theorem okAll_up : ∀ {n m : Nat} {ds : List D}, n ≤ m → okAll n ds = true → okAll m ds = true
  | _, _, [], _, _ => by simp [okAll]
  | n, m, d :: ds, l, h => by
    simp only [okAll, Bool.and_eq_true] at h ⊢
    exact ⟨okD_up l h.1, okAll_up l h.2⟩
end
theorem pys_any (x : D) : ∀ ds : List D, (pys ds).any (fun z => PyData.eqv z (py x)) = ds.any fun z => eqB z x
  | [] => rfl
  | d :: ds => by
    simp only [pys, List.any_cons, pys_any x ds]
    rfl
theorem opD_in (hu : X.A.units + 65 < cLine) : OpD Z X (compareOp .In) inD := by
  intro pins s σ H x y v u Q I rx ry h
  obtain ⟨O, dx, dy, z, hO, sx, sy, e, q⟩ := h
  unfold inD at e
  split at e
  · rename_i ds
    split at e
    · rename_i hc
      cases e
      have h1 : okD 64 dx = true := okD_up (by omega) hc.1
      have h2 : okD 64 (.lst ds) = true := by simpa [okD] using hc.2
      have := sy.dp (K := X.K) h2
      simp only [py] at this
      have sh := okD_shaped h2
      simp only [py] at sh
      exact op_inD hu pins s σ H _ _ v u Q I rx ry ⟨_, _, sx.dp h1, this, okD_shaped h1, sh, by rw [pys_any]; exact q _ _ (.same (.bl _))⟩
    · cases e
  · rename_i ds
    split at e
    · rename_i hc
      cases e
      have h1 : okD 64 dx = true := okD_up (by omega) hc.1
      have h2 : okD 64 (.tup ds) = true := by simpa [okD] using hc.2
      have := sy.dp (K := X.K) h2
      simp only [py] at this
      have sh := okD_shaped h2
      simp only [py] at sh
      exact op_inTD hu pins s σ H _ _ v u Q I rx ry ⟨_, _, sx.dp h1, this, okD_shaped h1, sh, by rw [pys_any]; exact q _ _ (.same (.bl _))⟩
    · cases e
  · cases e
theorem opD_notIn (hu : X.A.units + 65 < cLine) : OpD Z X (compareOp .NotIn) notInD := by
  intro pins s σ H x y v u Q I rx ry h
  obtain ⟨O, dx, dy, z, hO, sx, sy, e, q⟩ := h
  unfold notInD at e
  split at e
  · rename_i ds
    split at e
    · rename_i hc
      cases e
      have h1 : okD 64 dx = true := okD_up (by omega) hc.1
      have h2 : okD 64 (.lst ds) = true := by simpa [okD] using hc.2
      have := sy.dp (K := X.K) h2
      simp only [py] at this
      have sh := okD_shaped h2
      simp only [py] at sh
      exact op_notInD hu pins s σ H _ _ v u Q I rx ry ⟨_, _, sx.dp h1, this, okD_shaped h1, sh, by rw [pys_any]; exact q _ _ (.same (.bl _))⟩
    · cases e
  · rename_i ds
    split at e
    · rename_i hc
      cases e
      have h1 : okD 64 dx = true := okD_up (by omega) hc.1
      have h2 : okD 64 (.tup ds) = true := by simpa [okD] using hc.2
      have := sy.dp (K := X.K) h2
      simp only [py] at this
      have sh := okD_shaped h2
      simp only [py] at sh
      exact op_notInTD hu pins s σ H _ _ v u Q I rx ry ⟨_, _, sx.dp h1, this, okD_shaped h1, sh, by rw [pys_any]; exact q _ _ (.same (.bl _))⟩
    · cases e
  · cases e

/-! ### y = [..] -/
theorem sv_setLc {i : Nat} {y : Str} {py : Pos} {elt tg iter : Expr} {ifs : List Expr} {scope : Scope} {own : List (Str × Nat)} {pos spos : Pos} {S sh : List Nat} {it : IF Z.T} {g : GF} {c e : EF Z.T} (hc : X.calm = true) (hN : X.N.Nodup) (hi : PI X tg iter (tI C it)) (ok : BlkOk X.N X.env.scope scope own)
    (hg : ∀ (C : Fx Z), C.W = dead → ∀ (s : Shared) (H : Hp) (A : Addr) (cl : List (Str × Addr)) (fp : List Addr), PG (X.blk s H scope (compEnvC scope cl A X.env) fp) tg (tG C S g))
    (ht : ∀ (s : Shared) (H : Hp) (A : Addr) (cl : List (Str × Addr)) (fp : List Addr), PTs (X.blk s H scope (compEnvC scope cl A X.env) fp) ifs (tTx Z c))
    (he : ∀ (C : Fx Z), C.W = dead → ∀ (s : Shared) (H : Hp) (A : Addr) (cl : List (Str × Addr)) (fp : List Addr), PE (X.blk s H scope (compEnvC scope cl A X.env) fp) elt (tF C e))
    (hy : X.N[i]? = some y) (hyl : X.env.scope.names.lookup y = some .local) (hsw : swapsWith (.ListComp elt [⟨tg, iter, ifs, 0⟩] scope pos) (some (.Name y py)) spos.line X.env = pure true)
    (hS : ∀ i ∈ S, i ∈ own.map (·.2) := by decide) (hs : ∀ x, foldedSetIterable iter X.env x = pure x := by intro _; rfl) : PS X (.Assign [.Name y py] (.ListComp elt [⟨tg, iter, ifs, 0⟩] scope pos) spos) (tS C (setF i (lcF sh (own.map (·.2)) it g c e))) :=
  ⟨fun pins s σ H E I h => (ps_setLc hc hN hy hyl hsw hi ok (fun s H A cl fp => ex_G fun C w => hg C w s H A cl fp) ht (fun s H A cl fp => ex_F fun C w => he C w s H A cl fp) hs).run pins s σ H E I (tF_lc hS (tS_set h))⟩
end
end FD

/-! F16: repr of lists and tuples of data. -/
namespace FD
open PySem PySem.Spec PyProof.Rows L2
mutual
inductive Hq (H : Hp) : V → PyData → Prop
  | non : Hq H .non .none
  | bl (b : Bool) : Hq H (.bl b) (.bool b)
  | int (i : Int) : Hq H (.int i) (.int i)
  | str (x : Str) : Hq H (.str x) (.str x)
  | tup {a : Addr} {xs : List V} {ds : List PyData} : H a = some (.tup xs) → HqAll H xs ds → Hq H (.ref a) (.tuple ds)
  | lst {a : Addr} {xs : List V} {ds : List PyData} : H a = some (.lst xs) → HqAll H xs ds → Hq H (.ref a) (.list ds)
  | dct {a : Addr} : H a = some (.dK []) → Hq H (.ref a) (.dict [])
inductive HqAll (H : Hp) : List V → List PyData → Prop
  | nil : HqAll H [] []
  | cons {v : V} {vs : List V} {d : PyData} {ds : List PyData} : Hq H v d → HqAll H vs ds → HqAll H (v :: vs) (d :: ds)
end
section
variable {X : Cx} {pins : List (Addr × Obj)} {σ : L2.St} {H : Hp} {s : Shared}
theorem dict0 (I : Inv X pins σ H s) {a : Addr} (h : H a = some (.dK [])) : (a == sysModules) = false ∧ ∃ o n, s.heap.get? a = some o ∧ o.cls = .type "dict" ∧ o.data = .dict #[] n := by
  obtain ⟨_, ns, kvs, rel, o, es, ep, e1, e2, e3, e4, e5, _⟩ := (show ObjOk X.prog X.w H s.heap a (.dK []) from I.hok a _ h)
  cases rel
  have e6 : es.toList = [] := by
    cases hq : es.toList with
    | nil => rfl
    | cons x r =>
      rw [hq] at e5
      cases e5
  obtain ⟨l⟩ := es
  have e7 : l = [] := e6
  subst e7
  exact ⟨ns, o, ep, e1, e2.1, e3⟩
/-- what repr gives of a value -/
def ShowsQ (X : Cx) (s : Shared) (u : Value) (d : PyData) : Prop := ∃ as bs, Reads s.heap u d as ∧ ReadAtMost s.heap d.depth bs ∧ ReprK X.prog X.w bs s.heap d.depth u d.shown
def ShowsQA (X : Cx) (s : Shared) (us : List Value) (ds : List PyData) : Prop := ∃ as bs, ReadsAll s.heap us ds as ∧ ReadAtMost s.heap (PyData.depthAll ds) bs ∧ ReprAllK X.prog X.w bs s.heap (PyData.depthAll ds) us (PyData.shownAll ds)
mutual
theorem Hq.shows (I : Inv X pins σ H s) : ∀ (d : PyData) (v : V) (u : Value), Hq H v d → RelV v u → d.showable = true → d.shown.length ≤ sizeLine → ShowsQ X s u d
  | .none, _, _, h, r, _, _ => by
    cases h
    cases r
    exact ⟨_, [], .none, (fun _ z => nomatch z), by simp only [PyData.shown]; exact .of_is ReprIs.none _ _ _⟩
  | .bool b, _, _, h, r, _, _ => by
    cases h
    cases r
    exact ⟨_, [], .bool b, (fun _ z => nomatch z), by simp only [PyData.shown]; exact .of_is (ReprIs.bool b) _ _ _⟩
  | .int i, _, _, h, r, hs, _ => by
    cases h
    obtain ⟨t, rfl⟩ := r
    exact ⟨_, [], .int i t, (fun _ z => nomatch z), by simp only [PyData.shown]; exact .of_is (ReprIs.int t (by simpa [PyData.showable] using hs)) _ _ _⟩
  | .str x, _, _, h, r, _, hz => by
    cases h
    obtain ⟨t, rfl⟩ := r
    exact ⟨_, [], .str x t, (fun _ z => nomatch z), by simp only [PyData.shown]; exact .of_is (ReprIs.str x t (by simpa only [PyData.shown] using hz)) _ _ _⟩
  | .list ds, _, _, h, r, hs, hz => by
    cases h with
    | @lst a xs _ e k =>
      cases r
      obtain ⟨_, its, n, rv, ho⟩ := (show ObjOk X.prog X.w H s.heap a (.lst xs) from I.hok a _ e)
      have hz2 : (listText (PyData.shownAll ds)).length ≤ sizeLine := by simpa only [PyData.shown] using hz
      obtain ⟨as, bs, rd, rm, kk⟩ := HqAll.shows I ds xs its k rv (by simpa [PyData.showable] using hs) fun t ht => Nat.le_trans (listText_mem_le ht) hz2
      have whole : Reads s.heap (.ref a) (.list ds) _ := .list (vs := its.toArray) ho rfl rfl (by simpa using rd)
      have out : a ∉ bs := not_mem_of_deeper whole (by simp only [PyData.depth]; omega) rm
      refine ⟨_, a :: bs, whole, ReadAtMost.cons whole (by simp only [PyData.depth]; omega) rm, ?_⟩
      simp only [PyData.depth, PyData.shown]
      cases its with
      | nil =>
        cases rd
        simp only [PyData.shownAll, listText_nil]
        exact ReprK.listEmpty ho rfl rfl
      | cons y l => exact ReprK.list ho rfl rfl out (by simpa using kk.length_eq) fun i z ez => kk.item i z (by simpa using ez)
  | .tuple ds, _, _, h, r, hs, hz => by
    cases h with
    | @tup a xs _ e k =>
      cases r
      obtain ⟨_, its, rv, o, ho, hc, n, hd⟩ := (show ObjOk X.prog X.w H s.heap a (.tup xs) from I.hok a _ e)
      have hz2 : (tupleText (PyData.shownAll ds)).length ≤ sizeLine := by simpa only [PyData.shown] using hz
      obtain ⟨as, bs, rd, rm, kk⟩ := HqAll.shows I ds xs its k rv (by simpa [PyData.showable] using hs) fun t ht => Nat.le_trans (tupleText_mem_le ht) hz2
      have whole : Reads s.heap (.ref a) (.tuple ds) _ := .tuple (vs := its.toArray) ho hc hd (by simpa using rd)
      have out : a ∉ bs := not_mem_of_deeper whole (by simp only [PyData.depth]; omega) rm
      refine ⟨_, a :: bs, whole, ReadAtMost.cons whole (by simp only [PyData.depth]; omega) rm, ?_⟩
      simp only [PyData.depth, PyData.shown]
      exact ReprK.tuple ho hc hd out (by simpa using kk)
  | .dict kvs, _, _, h, r, hs, hz => by
    cases h with
    | @dct a e =>
      cases r
      obtain ⟨ns, o, n, ho, hc, hd⟩ := dict0 I e
      have whole : Reads s.heap (.ref a) (.dict []) _ := .dict (es := #[]) ho hc hd .nil .nil
      refine ⟨_, a :: [], whole, ReadAtMost.cons whole (Nat.zero_le _) (fun _ z => nomatch z), ?_⟩
      simp only [PyData.depth, PyData.shown, PyData.shownKv_eq]
      exact ReprK.dict ho hc hd ns (by simp) (ReprEntriesK.of_two [] [] [] .nil .nil)
theorem HqAll.shows (I : Inv X pins σ H s) : ∀ (ds : List PyData) (vs : List V) (us : List Value), HqAll H vs ds → Vals vs us → PyData.showableAll ds = true → (∀ t ∈ PyData.shownAll ds, t.length ≤ sizeLine) → ShowsQA X s us ds
  | [], _, _, h, r, _, _ => by
    cases h
    cases r
    exact ⟨_, [], .nil, (fun _ z => nomatch z), by simp only [PyData.shownAll]; exact .nil⟩
  | d :: ds, _, _, h, r, hs, hz => by
    cases h with
    | cons h1 h2 =>
      cases r with
      | cons r1 r2 =>
        have hs2 : d.showable = true ∧ PyData.showableAll ds = true := by simpa [PyData.showableAll] using hs
        obtain ⟨as1, bs1, q1, m1, k1⟩ := Hq.shows I d _ _ h1 r1 hs2.1 (hz _ (by simp only [PyData.shownAll]; exact List.mem_cons_self))
        obtain ⟨as2, bs2, q2, m2, k2⟩ := HqAll.shows I ds _ _ h2 r2 hs2.2 fun t ht => hz t (by simp only [PyData.shownAll]; exact List.mem_cons_of_mem _ ht)
        refine ⟨_, bs1 ++ bs2, .cons q1 q2, ?_, ?_⟩
        · simp only [PyData.depthAll]
          exact (m1.mono (Nat.le_max_left _ _)).append (m2.mono (Nat.le_max_right _ _))
        · simp only [PyData.depthAll, PyData.shownAll]
          exact .cons ((k1.more fun b z => List.mem_append_left _ z).level_le (Nat.le_max_left _ _)) (k2.more_le (fun b z => List.mem_append_right _ z) (Nat.le_max_right _ _))
end
end
section
variable {X : Cx}
/-- repr(x) of a list or a tuple -/
def rRepr : List V → Hp → VK → Prop := fun xs H Q => ∃ (v : V) (ds : List PyData) (d : PyData), (d = .list ds ∨ d = .tuple ds) ∧ xs = [v] ∧ Hq H v d ∧ d.showable = true ∧ d.depth ≤ 60 ∧ d.shown.length ≤ sizeLine ∧ Q (.str d.shown) H
theorem call_repr (hG : X.A.guards = some []) (hu : X.A.units + 64 < cLine) : CallR X (.builtin "repr") rRepr := by
  intro pins s σ H xs us Q I r h
  obtain ⟨v, ds, d, hd, rfl, hv, hs, hdp, hz, q⟩ := h
  obtain ⟨u, rfl, ru⟩ := vals1 r
  rcases hd with rfl | rfl
  · cases hv with
    | @lst a xs _ e k =>
      cases ru
      obtain ⟨_, its, n, rv, ho⟩ := (show ObjOk X.prog X.w H s.heap a (.lst xs) from I.hok a _ e)
      have hz2 : (listText (PyData.shownAll ds)).length ≤ sizeLine := by simpa only [PyData.shown] using hz
      obtain ⟨as, bs, rd, rm, kk⟩ := HqAll.shows I ds xs its k rv (by simpa [PyData.showable] using hs) fun t ht => Nat.le_trans (listText_mem_le ht) hz2
      have whole : Reads s.heap (.ref a) (.list ds) _ := .list (vs := its.toArray) ho rfl rfl (by simpa using rd)
      have out : a ∉ bs := not_mem_of_deeper whole (by simp only [PyData.depth]; omega) rm
      have e1 : (PyData.list ds).depth = PyData.depthAll ds + 1 := by simp only [PyData.depth]
      have e2 : (PyData.list ds).shown = listText (PyData.shownAll ds) := by simp only [PyData.shown]
      rw [e2] at q
      refine call_repr_slot (by omega) ⟨_, ho, rfl⟩ F.slot_list_repr.toG ?_
      cases its with
      | nil =>
        cases rd
        simp only [PyData.shownAll, listText_nil] at q
        exact call_list_repr_empty ⟨_, ho, rfl⟩ ho rfl ⟨_, _, rfl, .str _, H, I.tok _, ⟨_, rfl⟩, q⟩
      | cons y l =>
        exact call_list_reprK (A := X.A.in1) ho rfl rfl out (by simpa using kk.length_eq) (fun i z ez => kk.item i z (by simpa using ez)) hG (fun b _ => Clear.nil b) (by show X.A.units + 1 + _ < cLine; omega) (fun _ _ z => z)
          (fun h' u' tk hk => ⟨_, _, rfl, .str _, H, I.kept hk, ⟨_, rfl⟩, q⟩) hz2
  · cases hv with
    | @tup a xs _ e k =>
      cases ru
      obtain ⟨_, its, rv, o, ho, hc, n, hd⟩ := (show ObjOk X.prog X.w H s.heap a (.tup xs) from I.hok a _ e)
      have hz2 : (tupleText (PyData.shownAll ds)).length ≤ sizeLine := by simpa only [PyData.shown] using hz
      obtain ⟨as, bs, rd, rm, kk⟩ := HqAll.shows I ds xs its k rv (by simpa [PyData.showable] using hs) fun t ht => Nat.le_trans (tupleText_mem_le ht) hz2
      have whole : Reads s.heap (.ref a) (.tuple ds) _ := .tuple (vs := its.toArray) ho hc hd (by simpa using rd)
      have out : a ∉ bs := not_mem_of_deeper whole (by simp only [PyData.depth]; omega) rm
      have e1 : (PyData.tuple ds).depth = PyData.depthAll ds + 1 := by simp only [PyData.depth]
      have e2 : (PyData.tuple ds).shown = tupleText (PyData.shownAll ds) := by simp only [PyData.shown]
      rw [e2] at q
      refine call_repr_slot (by omega) ⟨_, ho, hc⟩ F.slot_tuple_repr ?_
      exact call_tuple_reprK (A := X.A.in1) ho hc hd out (by simpa using kk) hG (fun b _ => Clear.nil b) (by show X.A.units + 1 + _ < cLine; omega) (fun _ _ z => z)
        (fun h' u' tk hk => ⟨_, _, rfl, .str _, H, I.kept hk, ⟨_, rfl⟩, q⟩) hz2
end
end FD

namespace FD
open PySem PySem.Spec PyProof.Rows L2
mutual
/-- a datum's text is that of this one -/
def pq : D → Option PyData
  | .non => some .none
  | .bl b => some (.bool b)
  | .int i => some (.int i)
  | .str x => some (.str x)
  | .tup ds => (pqs ds).map .tuple
  | .lst ds => (pqs ds).map .list
  | .dct [] => some (.dict [])
  | _ => none
def pqs : List D → Option (List PyData)
  | [] => some []
  | d :: ds => match pq d, pqs ds with
    | some a, some b => some (a :: b)
    | _, _ => none
end
section
variable {Z : Wd} {O : Addr → Prop} {H : Hp}
mutual
theorem Den.hq : ∀ {v : V} {d : D}, Den Z O H v d → ∀ {p : PyData}, pq d = some p → Hq H v p
  | _, _, .non => fun e => by simp only [pq] at e; cases e; exact .non
  | _, _, .bl b => fun e => by simp only [pq] at e; cases e; exact .bl b
  | _, _, .int i => fun e => by simp only [pq] at e; cases e; exact .int i
  | _, _, .str x => fun e => by simp only [pq] at e; cases e; exact .str x
  | _, _, .ty x => fun h => by simp [pq] at h
  | _, _, .hnd x => fun h => by simp [pq] at h
  | _, _, .ref e m c => fun h => Cont.hq c e h
theorem Cont.hq : ∀ {o : HO} {d : D}, Cont Z O H o d → ∀ {a : Addr} {p : PyData}, H a = some o → pq d = some p → Hq H (.ref a) p
  | _, _, .tup c => fun e h => by
    simp only [pq] at h
    obtain ⟨qs, h1, rfl⟩ := Option.map_eq_some_iff.mp h
    exact .tup e (DenA.hq c h1)
  | _, _, .lst c => fun e h => by
    simp only [pq] at h
    obtain ⟨qs, h1, rfl⟩ := Option.map_eq_some_iff.mp h
    exact .lst e (DenA.hq c h1)
  | _, _, .dct c => fun e h => by
    cases c with
    | nil =>
      simp only [pq] at h
      cases h
      exact .dct e
    | cons _ _ => simp [pq] at h
  | _, _, .obj c => fun e h => by simp [pq] at h
theorem DenA.hq : ∀ {vs : List V} {ds : List D}, DenA Z O H vs ds → ∀ {ps : List PyData}, pqs ds = some ps → HqAll H vs ps
  | _, _, .nil => fun e => by
    simp only [pqs] at e
    cases e
    exact .nil
  | _, _, .cons q r => fun e => by
    simp only [pqs] at e
    split at e
    · rename_i p1 p2
      cases e
      exact .cons (Den.hq q p1) (DenA.hq r p2)
    · cases e
end
end
/-- what repr can be asked of -/
def Shown (p : PyData) : Prop := p.showable = true ∧ p.depth ≤ 60 ∧ p.shown.length ≤ sizeLine
instance (p : PyData) : Decidable (Shown p) := inferInstanceAs (Decidable (_ ∧ _ ∧ _))
def isSeq : PyData → Bool
  | .list _ => true
  | .tuple _ => true
  | _ => false
def reprD : List D → Option (D × Bool)
  | [x] => match pq x with
    | some p => if isSeq p = true ∧ Shown p then some (.str p.shown, false) else none
    | none => none
  | _ => none
theorem Shows.hq {Z : Wd} {O : Addr → Prop} {H : Hp} {v : V} {d : D} {p : PyData} (s : Shows Z O H v d) (e : pq d = some p) : Hq H v p := by
  cases s with
  | den s => exact s.hq e
  | own h _ c => exact c.hq h e
theorem cD_repr {Z : Wd} {X : Cx} (hG : X.A.guards = some []) (hu : X.A.units + 64 < cLine) : CallD Z X (.builtin "repr") reprD := by
  intro pins s σ H xs us Q I r h
  obtain ⟨O, ds, z, hO, sh, e, q⟩ := h
  unfold reprD at e
  split at e
  · split at e
    · rename_i p e1
      split at e
      · rename_i hp
        cases e
        cases sh with
        | cons sx sr =>
          cases sr
          have : ∃ ds : List PyData, p = .list ds ∨ p = .tuple ds := by
            obtain ⟨h1, _⟩ := hp
            unfold isSeq at h1
            split at h1
            · exact ⟨_, .inl rfl⟩
            · exact ⟨_, .inr rfl⟩
            · cases h1
          obtain ⟨ps, hps⟩ := this
          exact call_repr hG hu pins s σ H _ us Q I r ⟨_, ps, p, hps, rfl, sx.hq e1, hp.2.1, hp.2.2.1, hp.2.2.2, q _ _ (.same (.str _))⟩
      · cases e
    · cases e
  · cases e
end FD

/-! F17: sorted of ints, by reverse; list(range(..)), tuple(range(..)). -/
namespace FD
open PySem PySem.Spec PyProof.Rows L2
/-! ### sorted of a tuple -/
section
variable {prog : Program} {w : World} {A : Around} {E : Value → Shared → Prop} {s : Shared}
def gathered (h : Heap) (us : List Value) : Heap := (h.push (seqObj "list" #[] 0)).update h.objs.size (Obj.mapSeq (· ++ us.toArray))
theorem gather_tup {a : Addr} {us : List Value} {R : List Value → Shared → Prop} (ht : IsTup s.heap a us.toArray) (hz : us.length ≤ sizeLine) (k : R us { s with heap := gathered s.heap us }) :
    wpAny (model prog w) A (collect (.ref a)) R E s := by
  obtain ⟨ob, hob, hcl, m, hdat⟩ := id ht
  unfold collect
  refine wpAny_bind (wpAny_runValue (codeAny_builtin entry_proto_collect' ?_))
  show wpAny _ _ (newList [] >>= fun acc => again (.builtin "list.__iadd__" ⟨[acc, .ref a], []⟩)) _ _ s
  refine wpAny_bind (wpAny_newList (wpAny_pure ⟨Code.quiet_builtin _ (by decide +kernel), codeAny_builtin entry_list_iadd' ?_⟩))
  show wpAny _ _ (Builtin.List.listExtendWith (.ref s.heap.objs.size) (.ref a) (.ref s.heap.objs.size)) _ _ { s with heap := s.heap.push (seqObj "list" #[] 0) }
  unfold Builtin.List.listExtendWith
  have hob' : (s.heap.push (seqObj "list" #[] 0)).get? a = some ob := Heap.get?_push_of_some _ hob
  refine wpAny_bind (wpAny_typeOf (T := "tuple") ⟨ob, hob', hcl⟩ ?_)
  have isT : (Value.type "tuple" == Value.type "tuple") = true := by rfl
  rw [if_pos (by rw [isT]; simp)]
  refine wpAny_bind (listItems_at hob' hdat (wpAny_bind (listItems_at (xs := #[]) (n := 0) (Heap.get?_push_size _ rfl) rfl ?_)))
  rw [if_neg (by simp)]
  refine wpAny_bind (listUpdate_at (xs := #[]) (n := 0) (Heap.get?_push_size _ rfl) rfl ?_ (Nat.zero_le _) (by show (#[] ++ us.toArray).size ≤ sizeLine + 1; simp only [Array.size_append, List.size_toArray, List.length_nil]; omega))
  refine wpAny_pure (show wpAny (model prog w) A (do
      let fin ← load s.heap.objs.size
      match fin.data with
      | .seq got _ => pure got.toList
      | _ => unsupported "internal:collect") R E { s with heap := gathered s.heap us } from wpAny_bind (wpAny_load (get?_update_seq (Heap.get?_push_size _ rfl) _) ?_))
  show wpAny _ _ (pure ((#[] : Array Value) ++ us.toArray).toList) R E _
  rw [show ((#[] : Array Value) ++ us.toArray).toList = us by simp]
  exact wpAny_pure k
open Srt SrtO in
/-- sorted(t, ..) of a tuple, by keywords that say reverse=b -/
theorem sorted_ordT {l : Addr} {vs : List Value} {b : Bool} {kw : List (Str × Value)} {ltv : Value → Value → Bool} {Q : Value → Shared → Prop} (hk : ∀ a, Builtin.«list.sort» ⟨[.ref a], kw⟩ = Builtin.«list.sort» ⟨[.ref a], [(Str.ofString "reverse", .bool b)]⟩)
    (ha1 : argsOk "sorted" ⟨[.ref l], kw⟩) (ha2 : ∀ a, argsOk "list.sort" ⟨[a], kw⟩) (O : Swo ltv) (hl : IsTup s.heap l vs.toArray) (hz : vs.length ≤ sizeLine)
    (hS : 2 ≤ vs.length → ∀ (h₁ : Heap) (a : Addr), h₁.get? a = some (seqObj "list" vs.toArray 0) → (∀ b o, s.heap.get? b = some o → b ≠ a ∧ h₁.get? b = some o) → SortableO prog w A.in1.in1 { s with heap := h₁ } a vs ltv)
    (h : ∀ out : List Value, Srtd ltv out → Stb ltv out (if b = true then vs.reverse else vs) → Q (.ref (s.heap.objs.size + 1)) { s with heap := sortedAll s.heap vs (if b = true then out.toArray.reverse else out.toArray) }) :
    wpAny (model prog w) A (call (.builtin "sorted") [.ref l] kw) Q E s := by
  refine call_function_entry_kw kind_sorted plain_sorted entry_sorted ha1 ?_
  unfold Builtin.«sorted»
  refine wpAny_bind (m := checkCount "sorted" 1 1 _) (wpAny_pure ?_)
  refine wpAny_bind (gather_tup hl hz ?_)
  unfold gathered
  refine wpAny_bind (wpAny_newList ?_ hz)
  have hsz : ((s.heap.push (seqObj "list" #[] 0)).update s.heap.objs.size (Obj.mapSeq (· ++ vs.toArray))).objs.size = s.heap.objs.size + 1 := by
    rw [Heap.size_update, size_push']
  have hoL : (((s.heap.push (seqObj "list" #[] 0)).update s.heap.objs.size (Obj.mapSeq (· ++ vs.toArray))).push (seqObj "list" vs.toArray 0)).get? (s.heap.objs.size + 1) = some (seqObj "list" vs.toArray 0) := by
    rw [← hsz]; exact Heap.get?_push_size _ rfl
  have keep : ∀ b o, s.heap.get? b = some o → b ≠ s.heap.objs.size + 1 ∧ (((s.heap.push (seqObj "list" #[] 0)).update s.heap.objs.size (Obj.mapSeq (· ++ vs.toArray))).push (seqObj "list" vs.toArray 0)).get? b = some o := fun b o q => by
    have hlt : b < s.heap.objs.size := Heap.lt_size q
    refine ⟨Nat.ne_of_lt (Nat.lt_succ_of_lt hlt), Heap.get?_push_of_some _ ?_⟩
    rw [Heap.get?_update_ne _ _ _ _ (Nat.ne_of_lt hlt)]
    exact Heap.get?_push_of_some _ q
  show wpAny _ _ _ _ _ { s with heap := ((s.heap.push (seqObj "list" #[] 0)).update s.heap.objs.size (Obj.mapSeq (· ++ vs.toArray))).push (seqObj "list" vs.toArray 0) }
  rw [hsz]
  refine wpAny_bind (wpAny_holding (wpAny_call_entry_kw slot_list_sort ⟨_, hoL, rfl⟩ entry_list_sort ?_ (ha2 _)))
  rw [hk]
  refine SrtR.list_sort_ordR O hoL hz (fun h2 => hS h2 _ _ hoL keep) fun out hs hb => ⟨_, rfl, ?_⟩
  exact wpAny_pure ⟨_, rfl, h out hs hb⟩
end
section
variable {X : Cx}
theorem sorted_runT {b : Bool} {kw : List (Str × Value)} {pins : List (Addr × Obj)} {s : Shared} {σ : L2.St} {H : Hp} {a : Addr} {ns : List Int} {Q : VK} (I : Inv X pins σ H s) (hs : SqT X.K H a (ns.map V.int))
    (hk : ∀ a, Builtin.«list.sort» ⟨[.ref a], kw⟩ = Builtin.«list.sort» ⟨[.ref a], [(Str.ofString "reverse", .bool b)]⟩) (ha1 : argsOk "sorted" ⟨[.ref a], kw⟩) (ha2 : ∀ a, argsOk "list.sort" ⟨[a], kw⟩)
    (q : ∀ (ns' : List Int) (p : Addr), ns'.Perm ns → OrdB b ns' → H p = none → Q (.ref p) (upd H p (.lst (ns'.map V.int)))) : wpAny (model X.prog X.w) X.A (call (.builtin "sorted") [.ref a] kw) (EP X pins σ Q) X.xe s := by
  obtain ⟨its, rv, hl, hz⟩ := I.tuple hs
  have hi := rv.ints
  refine sorted_ordT hk ha1 ha2 SrtO.swo_int hl (by rw [← rv.length]; exact hz) (fun h2 h₁ a' _ _ => SrtO.ints_sortable hi h2) fun out h1 h2 => ?_
  obtain ⟨ns', k1, k2, k3⟩ := SrtR.ints_outR hi h1 h2
  obtain ⟨ep, he'⟩ := PyProof.Rows.sortedAll_at s.heap its (if b = true then out.toArray.reverse else out.toArray)
  have hlen : (ns'.map V.int).length ≤ sizeLine := by
    rw [List.length_map, k2.length_eq]
    rw [List.length_map] at hz
    exact hz
  have e0 : ((if b = true then out.toArray.reverse else out.toArray).toList).toArray = (if b = true then out.toArray.reverse else out.toArray) := by rw [Array.toArray_toList]
  exact ⟨.ref _, upd H (s.heap.objs.size + 1) (.lst (ns'.map V.int)), I.laid (t' := s.toks) (fun _ _ => PyProof.Rows.sortedAll_old) (Nat.le_succ _) ⟨hlen, _, ep, vals_of_ints k1, by rw [e0]; exact he'⟩, rfl, q _ _ k2 k3 (I.hok.fresh (Nat.le_succ _))⟩
end
/-! ### one order of ints -/
def sortUp (ns : List Int) : List Int := ns.mergeSort fun a b => decide (a ≤ b)
def sortDown (ns : List Int) : List Int := ns.mergeSort fun a b => decide (b ≤ a)
theorem sorted_one : ∀ {xs ys : List Int}, xs.Perm ys → xs.Pairwise (· ≤ ·) → ys.Pairwise (· ≤ ·) → xs = ys
  | [], ys, p, _, _ => (List.nil_perm.mp p).symm
  | x :: xs, [], p, _, _ => absurd p.length_eq (by simp)
  | x :: xs, y :: ys, p, h1, h2 => by
    rw [List.pairwise_cons] at h1 h2
    have e : x = y := by
      have m1 : x ∈ y :: ys := p.subset List.mem_cons_self
      have m2 : y ∈ x :: xs := p.symm.subset List.mem_cons_self
      have a1 : y ≤ x := by
        rcases List.mem_cons.mp m1 with z | z
        · omega
        · exact h2.1 _ z
      have a2 : x ≤ y := by
        rcases List.mem_cons.mp m2 with z | z
        · omega
        · exact h1.1 _ z
      omega
    subst e
    rw [sorted_one p.cons_inv h1.2 h2.2]
theorem sorted_oneR : ∀ {xs ys : List Int}, xs.Perm ys → xs.Pairwise (· ≥ ·) → ys.Pairwise (· ≥ ·) → xs = ys := fun {xs ys} p h1 h2 => by
  have := sorted_one (xs := xs.reverse) (ys := ys.reverse) ((List.reverse_perm xs).trans (p.trans (List.reverse_perm ys).symm)) (List.pairwise_reverse.mpr h1) (List.pairwise_reverse.mpr h2)
  rw [← List.reverse_reverse xs, this, List.reverse_reverse]
theorem sortUp_perm (ns : List Int) : (sortUp ns).Perm ns := List.mergeSort_perm _ _
theorem sortDown_perm (ns : List Int) : (sortDown ns).Perm ns := List.mergeSort_perm _ _
theorem sortUp_sorted (ns : List Int) : (sortUp ns).Pairwise (· ≤ ·) := by
  have := List.pairwise_mergeSort (le := fun a b : Int => decide (a ≤ b)) (fun a b c h1 h2 => by simp at *; omega) (fun a b => by simp; omega) ns
  exact this.imp fun h => of_decide_eq_true h
theorem sortDown_sorted (ns : List Int) : (sortDown ns).Pairwise (· ≥ ·) := by
  have := List.pairwise_mergeSort (le := fun a b : Int => decide (b ≤ a)) (fun a b c h1 h2 => by simp at *; omega) (fun a b => by simp; omega) ns
  exact this.imp fun h => of_decide_eq_true h
section
variable {Z : Wd} {C : Fx Z} {X : Cx}
def sortOf (b : Bool) (ns : List Int) : List Int := if b = true then sortDown ns else sortUp ns
theorem sortOf_one {b : Bool} {xs ns : List Int} (p : xs.Perm ns) (h : OrdB b xs) : xs = sortOf b ns := by
  cases b with
  | true => exact sorted_oneR (p.trans (sortDown_perm ns).symm) h (sortDown_sorted ns)
  | false => exact sorted_one (p.trans (sortUp_perm ns).symm) h (sortUp_sorted ns)
/-- sorted of ints, of a list or a tuple -/
def sortBD (b : Bool) : List D → Option (D × Bool)
  | [.lst ds] => (intsD ds).map fun ns => (.lst ((sortOf b ns).map D.int), true)
  | [.tup ds] => (intsD ds).map fun ns => (.lst ((sortOf b ns).map D.int), true)
  | _ => none
def sortD : List D → Option (D × Bool) := sortBD false
theorem runs_sort {b : Bool} {kw : List (Str × Value)} {pins : List (Addr × Obj)} {s : Shared} {σ : L2.St} {H : Hp} {xs : List V} {us : List Value} {Q : VK} (I : Inv X pins σ H s) (r : Vals xs us) (h : rDA Z (sortBD b) xs H Q)
    (hk : ∀ a, Builtin.«list.sort» ⟨[.ref a], kw⟩ = Builtin.«list.sort» ⟨[.ref a], [(Str.ofString "reverse", .bool b)]⟩) (ha1 : ∀ a, argsOk "sorted" ⟨[.ref a], kw⟩) (ha2 : ∀ a, argsOk "list.sort" ⟨[a], kw⟩) :
    wpAny (model X.prog X.w) X.A (call (.builtin "sorted") us kw) (EP X pins σ Q) X.xe s := by
  obtain ⟨O, ds, z, hO, sh, e, q⟩ := h
  unfold sortBD at e
  split at e
  · obtain ⟨ns, e1, rfl⟩ := Option.map_eq_some_iff.mp e
    cases intsD_of e1
    cases sh with
    | cons sx sr =>
      cases sr
      obtain ⟨a, ys, rfl, h1, c1⟩ := sx.lst
      cases c1.ints
      obtain rfl := Vals.ref1 r
      refine sorted_run I (SqL.of h1) hk (ha1 _) ha2 fun ns' p h2 h3 h4 => ?_
      rw [sortOf_one h2 h3]
      exact q _ _ (.lst h4 (denA_ints _))
  · obtain ⟨ns, e1, rfl⟩ := Option.map_eq_some_iff.mp e
    cases intsD_of e1
    cases sh with
    | cons sx sr =>
      cases sr
      obtain ⟨a, ys, rfl, h1, c1, _⟩ := sx.tup
      cases c1.ints
      obtain rfl := Vals.ref1 r
      refine sorted_runT I (SqT.of h1) hk (ha1 _) ha2 fun ns' p h2 h3 h4 => ?_
      rw [sortOf_one h2 h3]
      exact q _ _ (.lst h4 (denA_ints _))
  · cases e
def rKw (Z : Wd) (op : List D → Option (D × Bool)) (zs0 : List V) : List V → List V → Hp → VK → Prop := fun xs zs H Q => zs = zs0 ∧ rDA Z op xs H Q
theorem crk_sortRev {b : Bool} : CallRK X (.builtin "sorted") [Str.ofString "reverse"] (rKw Z (sortBD b) [.bl b]) := by
  intro pins s σ H vs zs us ws Q I r rz h
  obtain ⟨rfl, h⟩ := h
  obtain ⟨w1, rfl, e1⟩ := vals1 rz
  obtain rfl : w1 = Value.bool b := e1
  exact runs_sort I r h (fun _ => rfl) (fun _ => PyProof.Rows.args_sorted_rev _ _) (fun _ => PyProof.Rows.args_list_sort_rev _ _)
theorem ev_sortRev {b : Bool} {g : AF Z.T} {p pos kpos cpos : Pos} {j : Nat} {e : Expr} (hg : Gl X "sorted") (hm : X.mg "sorted" = none) (ha : PA X [e] (tA C g))
    (he : backTo pos (starEach [e] X.env) = (false, eval e X.env) :: backTo pos (starEach [] X.env) := by rfl) (h4 : ((backTo pos (starEach [e] X.env)).any fun x => x.fst) = false := by rfl)
    (h5 : ((backToKw pos (keywordEach [⟨some "reverse", .Constant (.bool b) j cpos, kpos⟩] X.env)).all fun x => x.fst.isSome) = true := by rfl) (h6 : ((backToKw pos (keywordEach [⟨some "reverse", .Constant (.bool b) j cpos, kpos⟩] X.env)).any fun x => x.fst.isNone) = false := by rfl)
    (h7 : List.filterMap (fun x => x.fst) (backToKw pos (keywordEach [⟨some "reverse", .Constant (.bool b) j cpos, kpos⟩] X.env)) = [Str.ofString "reverse"] := by rfl) :
    PE X (.Call (.Name "sorted" p) [e] [⟨some "reverse", .Constant (.bool b) j cpos, kpos⟩] pos) (tF C (callF (sortBD b) g)) :=
  ⟨fun pins s σ H Q I h => (pe_callBK crk_sortRev hg hm (by decide +kernel) ha (pk_cons pe_bl pk_nil) (by decide) (by decide) he h4 h5 h6 h7).run pins s σ H Q I (tA_mono (call_of h) fun vs H1 q => ⟨rfl, q⟩)⟩
theorem key_no (a : Addr) : Builtin.«list.sort» ⟨[.ref a], []⟩ = Builtin.«list.sort» ⟨[.ref a], [(Str.ofString "reverse", .bool false)]⟩ := by
  rw [list_sort_rev]
  first | rfl | kernel_rfl
theorem cD_sort : CallD Z X (.builtin "sorted") sortD := by
  intro pins s σ H xs us Q I r h
  exact runs_sort (b := false) I r h key_no (fun a => PyProof.Rows.args_sorted1 _) (fun a => PyProof.Rows.args_list_sort _)

/-! ### list(range(..)), tuple(range(..)) -/
def lrng1F {T : Type} (f : EF T) : EF T := bindF f fun r => doneF fun τ => match peek τ (hold r) with
  | some (.int n) => if n ≤ LEN ∧ small n = true then some (.lst (rngL 0 n), true) else none
  | _ => none
def trng1F {T : Type} (f : EF T) : EF T := bindF f fun r => doneF fun τ => match peek τ (hold r) with
  | some (.int n) => if n ≤ LEN ∧ small n = true then some (.tup (rngL 0 n), false) else none
  | _ => none
theorem den_rg {O : Addr → Prop} {H : Hp} (a b : Int) : DenA Z O H (rgV a b) (rngL a b) := by
  unfold rgV rngL
  induction (List.range (b - a).toNat) with
  | nil => exact .nil
  | cons k r ih => exact .cons (.int _) ih
theorem rg_ok {n : Int} (h : n ≤ LEN ∧ small n = true) : RgOk 0 n := by
  obtain ⟨h1, h2⟩ := h
  unfold small at h2
  have h2 := of_decide_eq_true h2
  unfold RgOk
  simp only [LEN] at h1
  exact ⟨by omega, by omega, by omega, by omega, by omega⟩
theorem ev_lrng1 {f : EF Z.T} {p pos p2 pos2 : Pos} {a : Expr} (hc : X.calm = true) (hg : Gl X "list") (hm : X.mg "list" = none) (hg2 : Gl X "range") (hm2 : X.mg "range" = none) (ha : PE X a (tF C f))
    (n1 : starEach [a] X.env = (false, eval a X.env) :: starEach [] X.env := by rfl) (n2 : starEach [.Call (.Name "range" p2) [a] [] pos2] X.env = (false, eval (.Call (.Name "range" p2) [a] [] pos2) X.env) :: starEach [] X.env := by rfl) :
    PE X (.Call (.Name "list" p) [.Call (.Name "range" p2) [a] [] pos2] [] pos) (tF C (lrng1F f)) :=
  ⟨fun pins s σ H Q I h => (pe_listRg hc hg hm (prg_1 hg2 hm2 ha n1) n2).run pins s σ H Q I (by
    obtain ⟨ow, τ, t, R, h0, h⟩ := h.at_
    refine tF_mono (h.bind R h0) fun x H1 ⟨ow1, τ1, t1, ra, R1, r1, h1, _⟩ => ?_
    obtain ⟨ow2, R2, z2, r2, x2⟩ := r1.hold R1
    obtain ⟨z, e, q⟩ := (h1.from x2).done R2 z2
    split at e
    · rename_i n p1
      split at e
      · rename_i hn
        cases e
        exact ⟨n, (r2.peek R2 p1).int, rg_ok hn, fun l hl => q _ _ (.lst hl (den_rg 0 n))⟩
      · cases e
    · cases e)⟩
theorem ev_trng1 {f : EF Z.T} {p pos p2 pos2 : Pos} {a : Expr} (hc : X.calm = true) (hg : Gl X "tuple") (hm : X.mg "tuple" = none) (hg2 : Gl X "range") (hm2 : X.mg "range" = none) (ha : PE X a (tF C f))
    (n1 : starEach [a] X.env = (false, eval a X.env) :: starEach [] X.env := by rfl) (n2 : starEach [.Call (.Name "range" p2) [a] [] pos2] X.env = (false, eval (.Call (.Name "range" p2) [a] [] pos2) X.env) :: starEach [] X.env := by rfl) :
    PE X (.Call (.Name "tuple" p) [.Call (.Name "range" p2) [a] [] pos2] [] pos) (tF C (trng1F f)) :=
  ⟨fun pins s σ H Q I h => (pe_tupRg hc hg hm (prg_1 hg2 hm2 ha n1) n2).run pins s σ H Q I (by
    obtain ⟨ow, τ, t, R, h0, h⟩ := h.at_
    refine tF_mono (h.bind R h0) fun x H1 ⟨ow1, τ1, t1, ra, R1, r1, h1, _⟩ => ?_
    obtain ⟨ow2, R2, z2, r2, x2⟩ := r1.hold R1
    obtain ⟨z, e, q⟩ := (h1.from x2).done R2 z2
    split at e
    · rename_i n p1
      split at e
      · rename_i hn
        cases e
        exact ⟨n, (r2.peek R2 p1).int, rg_ok hn, fun l hl => q _ _ (.tup (fun p hp => R2.nohid hp) hl (den_rg 0 n))⟩
      · cases e
    · cases e)⟩
end
end FD

/-! F18: the deck as a world: its state, a draw. -/
namespace FD
open PySem PySem.Spec PyProof.Rows L2
structure Dk where
  a : Addr
  l1 : Addr
  l2 : Addr
structure Dk.At (D : Dk) (H : Hp) (c : Nat) (big cells : List Int) : Prop where
  top : H D.a = some (.lst [.ref D.l1, .ref D.l2, .int c])
  one : H D.l1 = some (.lst (big.map V.int))
  two : H D.l2 = some (.lst (cells.map V.int))
  pos : 0 < cells.length
  ne1 : D.a ≠ D.l1
  ne2 : D.a ≠ D.l2
  ne3 : D.l2 ≠ D.l1
structure DS where
  c : Nat
  big : List Int
  cells : List Int
/-- a mixed draw -/
def mixed (m : Int) (c : Nat) (cells : List Int) : Int :=
  let x := (cells[(((c + 1 : Nat) : Int) % (cells.length : Int)).toNat]?.getD 0) % 2147483647
  let y := (x * (16807 + 39373 * ((c + 1 : Nat) : Int)) + 40692 * ((c + 1 : Nat) : Int) * ((c + 1 : Nat) : Int) + 97) % 2147483629
  y * y % 2147483587 / 16 % m
def drawB : List Int → Int → Option (Int × List Int)
  | [], _ => none
  | b :: r, m => if 0 < b then some (b % m, (b / m) :: r) else drawB r m
def DS.draw (m : Int) (s : DS) : Int := match drawB s.big m with
  | some (v, _) => v
  | none => mixed m s.c s.cells
def DS.step (m : Int) (s : DS) : DS := match drawB s.big m with
  | some (_, r) => { s with big := r }
  | none => ⟨s.c + 1, [], s.cells⟩
theorem drawB_in {m : Int} (hm : 0 < m) : ∀ {bs : List Int} {v : Int} {r : List Int}, drawB bs m = some (v, r) → 0 ≤ v ∧ v < m
  | [], _, _, h => by cases h
  | b :: bs, v, r, h => by
    unfold drawB at h
    split at h
    · cases h
      exact ⟨Int.emod_nonneg _ (by omega), Int.emod_lt_of_pos _ hm⟩
    · exact drawB_in hm h
theorem DS.draw_in {m : Int} (hm : 0 < m) (s : DS) : 0 ≤ s.draw m ∧ s.draw m < m := by
  unfold DS.draw
  split
  · rename_i p
    exact drawB_in hm p
  · unfold mixed
    exact ⟨Int.emod_nonneg _ (by omega), Int.emod_lt_of_pos _ hm⟩
theorem DS.step_c {m : Int} {s : DS} : (s.step m).c ≤ s.c + 1 := by
  unfold DS.step
  split
  · exact Nat.le_succ _
  · exact Nat.le_refl _
/-- the world with a deck at A -/
def Zdk (A : Dk) (ca : Str → Addr) : Wd where
  T := DS
  On := fun s H => A.At H s.c s.big s.cells
  hid := fun a => a = A.a ∨ a = A.l1 ∨ a = A.l2
  val := fun _ => .ref A.a
  ca := ca
  loc := fun t H H' d k => ⟨k _ _ (.inl rfl) d.top, k _ _ (.inr (.inl rfl)) d.one, k _ _ (.inr (.inr rfl)) d.two, d.pos, d.ne1, d.ne2, d.ne3⟩
  trk := fun t H a d h => by
    rcases h with rfl | rfl | rfl
    · exact ⟨_, d.top, nofun⟩
    · exact ⟨_, d.one, nofun⟩
    · exact ⟨_, d.two, nofun⟩
/-- _law_next -/
def FF_q_next : FF DS := fun ds s => match ds with
  | [.hnd _, .int m] => if 0 < m ∧ m < 2 ^ 64 ∧ s.c < 2 ^ 40 then some (.ok (.int (s.draw m)) false, s.step m) else none
  | _ => none
theorem len_q_next {ds : List D} {t : DS} {o : FOut × DS} (h : FF_q_next ds t = some o) : ds.length = 2 := by
  unfold FF_q_next at h
  split at h
  · rfl
  · cases h
theorem den_hnd {A : Dk} {ca : Str → Addr} {O : Addr → Prop} {H : Hp} {v : V} {n : Nat} (h : Den (Zdk A ca) O H v (.hnd n)) : v = .ref A.a := by
  generalize hd : D.hnd n = d at h
  cases h with
  | hnd k => rfl
  | ref e m c => subst hd; cases c
  | _ => cases hd
theorem dp_ints {K : PySem.W.Frag} {H : Hp} : ∀ ns : List Int, DpAll K H (ns.map V.int) (ns.map PyData.int)
  | [] => .nil
  | n :: r => .cons (.int n) (dp_ints r)
theorem lay_ints : ∀ ns : List Int, PyData.canLayAll0 (ns.map PyData.int) = true
  | [] => by simp [PyData.canLayAll0]
  | n :: r => by simp [PyData.canLayAll0, PyData.canLay0, lay_ints r]
theorem deep_ints : ∀ ns : List Int, PyData.depthAll (ns.map PyData.int) = 0
  | [] => by simp [PyData.depthAll]
  | n :: r => by simp [PyData.depthAll, PyData.depth, deep_ints r]
theorem shaped_ints (ns : List Int) : SeqAt.shaped (.list (ns.map PyData.int)) = true := by
  have h1 := lay_ints ns
  have h2 := deep_ints ns
  unfold SeqAt.shaped
  simp [PyData.canLay0, PyData.depth, h1, h2]
theorem eqv_nil (ns : List Int) : PyData.eqv (.list (ns.map PyData.int)) (.list []) = ns.isEmpty := by
  cases ns with
  | nil => simp [PyData.eqv, PyData.eqvAll]
  | cons n r => simp [PyData.eqv, PyData.eqvAll]
theorem upd_keep {H : Hp} {p : Addr} {o : HO} (h : H p = none) {b : Addr} {x : HO} (e : H b = some x) : upd H p o b = some x := by
  rw [upd_ne (ne_of_none e h)]
  exact e
theorem Dk.At.new {D : Dk} {H : Hp} {c : Nat} {big cells : List Int} {p : Addr} {o : HO} (d : D.At H c big cells) (h : H p = none) : D.At (upd H p o) c big cells :=
  ⟨upd_keep h d.top, upd_keep h d.one, upd_keep h d.two, d.pos, d.ne1, d.ne2, d.ne3⟩
/-- all stands but what the deck may change -/
def Keep (D : Dk) (H H' : Hp) : Prop := ∀ b x, H b = some x → b ≠ D.a → b ≠ D.l1 → H' b = some x
theorem Keep.rfl' {D : Dk} {H : Hp} : Keep D H H := fun _ _ e _ _ => e
theorem Keep.trans {D : Dk} {H H1 H2 : Hp} (h : Keep D H H1) (k : Keep D H1 H2) : Keep D H H2 := fun b x e n1 n2 => k b x (h b x e n1 n2) n1 n2
theorem Keep.new {D : Dk} {H : Hp} {p : Addr} {o : HO} (h : H p = none) : Keep D H (upd H p o) := fun _ _ e _ _ => upd_keep h e
theorem at0 {α : Type} {x : α} {xs : List α} : atI (x :: xs) 0 = some x := atI_nat (j := 0) rfl
theorem at1 {α : Type} {x y : α} {xs : List α} : atI (x :: y :: xs) 1 = some y := atI_nat (j := 1) rfl
theorem at2 {α : Type} {x y z : α} {xs : List α} : atI (x :: y :: z :: xs) 2 = some z := atI_nat (j := 2) rfl
theorem ix0 {n : Nat} (h : 0 < n) : ixN n 0 = some 0 := by
  unfold ixN
  rw [if_pos (Int.le_refl 0), if_pos (by omega)]
  rfl
theorem ix2 {n : Nat} (h : 2 < n) : ixN n 2 = some 2 := by
  unfold ixN
  rw [if_pos (by decide), if_pos (by omega)]
  rfl
theorem seq0 {n : Nat} (h : 0 < n) : seqIndex? 0 n = some 0 := by
  have := seqIndex_of (k := 0) (n := n) (by omega) (by omega)
  simpa using this
end FD

namespace FD
open PySem PySem.Spec PyProof.Rows L2
def topS (i : Nat) : Stmt := PySem.Challenge.pw_groupcaps_k21_bounds_of_prices.main.body.getD i (.Pass ⟨0, 0, 0, 0⟩)
abbrev s_is_between : Stmt := topS 1
abbrev n_is_between : List Str := ["value", "least", "most"]
abbrev p_is_between : List Str := ["value", "least", "most"]
theorem sc_is_between : FnScope n_is_between p_is_between (defScope s_is_between) := ⟨rfl, rfl, rfl, by decide +kernel, rfl, by decide +kernel, by decide +kernel⟩
abbrev s_is_tuple_of : Stmt := topS 2
abbrev n_is_tuple_of : List Str := ["value", "length"]
abbrev p_is_tuple_of : List Str := ["value", "length"]
theorem sc_is_tuple_of : FnScope n_is_tuple_of p_is_tuple_of (defScope s_is_tuple_of) := ⟨rfl, rfl, rfl, by decide +kernel, rfl, by decide +kernel, by decide +kernel⟩
abbrev s_is_prices : Stmt := topS 5
abbrev n_is_prices : List Str := ["system", "value", "price"]
abbrev p_is_prices : List Str := ["system", "value"]
theorem sc_is_prices : FnScope n_is_prices p_is_prices (defScope s_is_prices) := ⟨rfl, rfl, rfl, by decide +kernel, rfl, by decide +kernel, by decide +kernel⟩
abbrev s_price_of_item : Stmt := topS 6
abbrev n_price_of_item : List Str := ["system", "prices", "item", "price", "group"]
abbrev p_price_of_item : List Str := ["system", "prices", "item"]
theorem sc_price_of_item : FnScope n_price_of_item p_price_of_item (defScope s_price_of_item) := ⟨rfl, rfl, rfl, by decide +kernel, rfl, by decide +kernel, by decide +kernel⟩
abbrev s_gain_above : Stmt := topS 7
abbrev n_gain_above : List Str := ["gains", "price", "count", "gain"]
abbrev p_gain_above : List Str := ["gains", "price"]
theorem sc_gain_above : FnScope n_gain_above p_gain_above (defScope s_gain_above) := ⟨rfl, rfl, rfl, by decide +kernel, rfl, by decide +kernel, by decide +kernel⟩
abbrev s_price_bound : Stmt := topS 8
abbrev n_price_bound : List Str := ["system", "value", "bound", "item", "gains", "price", "members", "least", "most"]
abbrev p_price_bound : List Str := ["system", "value"]
theorem sc_price_bound : FnScope n_price_bound p_price_bound (defScope s_price_bound) := ⟨rfl, rfl, rfl, by decide +kernel, rfl, by decide +kernel, by decide +kernel⟩
abbrev s_q_deck : Stmt := topS 10
abbrev n_q_deck : List Str := ["_law_script", "_law_cells", "_law_cell"]
abbrev p_q_deck : List Str := ["_law_script"]
theorem sc_q_deck : FnScope n_q_deck p_q_deck (defScope s_q_deck) := ⟨rfl, rfl, rfl, by decide +kernel, rfl, by decide +kernel, by decide +kernel⟩
abbrev s_q_one : Stmt := topS 11
abbrev n_q_one : List Str := ["_law_deck_here", "_law_some"]
abbrev p_q_one : List Str := ["_law_deck_here", "_law_some"]
theorem sc_q_one : FnScope n_q_one p_q_one (defScope s_q_one) := ⟨rfl, rfl, rfl, by decide +kernel, rfl, by decide +kernel, by decide +kernel⟩
abbrev s_q_whole : Stmt := topS 12
abbrev n_q_whole : List Str := ["_law_thing"]
abbrev p_q_whole : List Str := ["_law_thing"]
theorem sc_q_whole : FnScope n_q_whole p_q_whole (defScope s_q_whole) := ⟨rfl, rfl, rfl, by decide +kernel, rfl, by decide +kernel, by decide +kernel⟩
abbrev s_q_same : Stmt := topS 13
abbrev n_q_same : List Str := ["_law_found", "_law_due", "_law_k"]
abbrev p_q_same : List Str := ["_law_found", "_law_due"]
theorem sc_q_same : FnScope n_q_same p_q_same (defScope s_q_same) := ⟨rfl, rfl, rfl, by decide +kernel, rfl, by decide +kernel, by decide +kernel⟩
abbrev s_q_bent : Stmt := topS 14
abbrev n_q_bent : List Str := ["_law_deck_here", "_law_thing", "_law_deep", "_law_spot"]
abbrev p_q_bent : List Str := ["_law_deck_here", "_law_thing", "_law_deep"]
theorem sc_q_bent : FnScope n_q_bent p_q_bent (defScope s_q_bent) := ⟨rfl, rfl, rfl, by decide +kernel, rfl, by decide +kernel, by decide +kernel⟩
abbrev s_q_next : Stmt := topS 15
abbrev n_q_next : List Str := ["_law_deck_here", "_law_many", "_law_rest", "_law_cell", "_law_pick"]
abbrev p_q_next : List Str := ["_law_deck_here", "_law_many"]
theorem sc_q_next : FnScope n_q_next p_q_next (defScope s_q_next) := ⟨rfl, rfl, rfl, by decide +kernel, rfl, by decide +kernel, by decide +kernel⟩
abbrev s_q_odd : Stmt := topS 16
abbrev n_q_odd : List Str := ["_law_deck_here", "_law_some"]
abbrev p_q_odd : List Str := ["_law_deck_here"]
theorem sc_q_odd : FnScope n_q_odd p_q_odd (defScope s_q_odd) := ⟨rfl, rfl, rfl, by decide +kernel, rfl, by decide +kernel, by decide +kernel⟩
abbrev s_q_great : Stmt := topS 17
abbrev n_q_great : List Str := ["_law_deck_here"]
abbrev p_q_great : List Str := ["_law_deck_here"]
theorem sc_q_great : FnScope n_q_great p_q_great (defScope s_q_great) := ⟨rfl, rfl, rfl, by decide +kernel, rfl, by decide +kernel, by decide +kernel⟩
abbrev s_q_gains : Stmt := topS 18
abbrev n_q_gains : List Str := ["_law_deck_here", "_law_great_here", "_law_most", "_law_gain", "_law_found", "_law_k"]
abbrev p_q_gains : List Str := ["_law_deck_here", "_law_great_here", "_law_most"]
theorem sc_q_gains : FnScope n_q_gains p_q_gains (defScope s_q_gains) := ⟨rfl, rfl, rfl, by decide +kernel, rfl, by decide +kernel, by decide +kernel⟩
abbrev s_q_capacity : Stmt := topS 19
abbrev n_q_capacity : List Str := ["_law_gains_here", "_law_count", "_law_gain"]
abbrev p_q_capacity : List Str := ["_law_gains_here"]
theorem sc_q_capacity : FnScope n_q_capacity p_q_capacity (defScope s_q_capacity) := ⟨rfl, rfl, rfl, by decide +kernel, rfl, by decide +kernel, by decide +kernel⟩
abbrev s_q_family : Stmt := topS 20
abbrev n_q_family : List Str := ["_law_deck_here", "_law_count", "_law_blocks", "_law_found", "_law_block", "_law_one_here", "_law_other", "_law_k"]
abbrev p_q_family : List Str := ["_law_deck_here", "_law_count"]
theorem sc_q_family : FnScope n_q_family p_q_family (defScope s_q_family) := ⟨rfl, rfl, rfl, by decide +kernel, rfl, by decide +kernel, by decide +kernel⟩
abbrev s_q_limits : Stmt := topS 21
abbrev n_q_limits : List Str := ["_law_deck_here", "_law_total", "_law_most", "_law_way", "_law_low", "_law_high"]
abbrev p_q_limits : List Str := ["_law_deck_here", "_law_total", "_law_most"]
theorem sc_q_limits : FnScope n_q_limits p_q_limits (defScope s_q_limits) := ⟨rfl, rfl, rfl, by decide +kernel, rfl, by decide +kernel, by decide +kernel⟩
abbrev s_q_system : Stmt := topS 22
abbrev n_q_system : List Str := ["_law_deck_here", "_law_great_here", "_law_items", "_law_steps", "_law_rows", "_law_plan", "_law_groups", "_law_members", "_law_most", "_law_low", "_law_high", "_law_k", "_law_gains_here"]
abbrev p_q_system : List Str := ["_law_deck_here", "_law_great_here", "_law_items", "_law_steps"]
theorem sc_q_system : FnScope n_q_system p_q_system (defScope s_q_system) := ⟨rfl, rfl, rfl, by decide +kernel, rfl, by decide +kernel, by decide +kernel⟩
abbrev s_q_item_price : Stmt := topS 23
abbrev n_q_item_price : List Str := ["_law_system_here", "_law_prices", "_law_item", "_law_price", "_law_group"]
abbrev p_q_item_price : List Str := ["_law_system_here", "_law_prices", "_law_item"]
theorem sc_q_item_price : FnScope n_q_item_price p_q_item_price (defScope s_q_item_price) := ⟨rfl, rfl, rfl, by decide +kernel, rfl, by decide +kernel, by decide +kernel⟩
abbrev s_q_item_value : Stmt := topS 24
abbrev n_q_item_value : List Str := ["_law_gains_here", "_law_price", "_law_found", "_law_units", "_law_total", "_law_count", "_law_gain"]
abbrev p_q_item_value : List Str := ["_law_gains_here", "_law_price"]
theorem sc_q_item_value : FnScope n_q_item_value p_q_item_value (defScope s_q_item_value) := ⟨rfl, rfl, rfl, by decide +kernel, rfl, by decide +kernel, by decide +kernel⟩
abbrev s_q_price_bound : Stmt := topS 25
abbrev n_q_price_bound : List Str := ["_law_system_here", "_law_thing", "_law_price", "_law_found", "_law_item", "_law_gains_here", "_law_group"]
abbrev p_q_price_bound : List Str := ["_law_system_here", "_law_thing"]
theorem sc_q_price_bound : FnScope n_q_price_bound p_q_price_bound (defScope s_q_price_bound) := ⟨rfl, rfl, rfl, by decide +kernel, rfl, by decide +kernel, by decide +kernel⟩
abbrev s_q_values : Stmt := topS 26
abbrev n_q_values : List Str := ["_law_deck_here", "_law_count", "_law_small", "_law_great_here", "_law_some", "_law_once", "_law_k"]
abbrev p_q_values : List Str := ["_law_deck_here", "_law_count"]
theorem sc_q_values : FnScope n_q_values p_q_values (defScope s_q_values) := ⟨rfl, rfl, rfl, by decide +kernel, rfl, by decide +kernel, by decide +kernel⟩
abbrev s_law : Stmt := topS 27
abbrev n_law : List Str := ["_law_script", "_law_deck_here", "_law_turn", "_law_system_here", "_law_value", "_law_kept"]
abbrev p_law : List Str := ["_law_script"]
theorem sc_law : FnScope n_law p_law (defScope s_law) := ⟨rfl, rfl, rfl, by decide +kernel, rfl, by decide +kernel, by decide +kernel⟩
/-- what the top leaves -/
structure Txt (K : PySem.W.Frag) (mg : Str → Option Value) where
  a_is_between : Addr
  d_is_between : FuncData
  F_is_between : Fun K "is_between" "is_between" s_is_between a_is_between d_is_between
  b_is_between : Binds K d_is_between p_is_between []
  g_is_between : mg "is_between" = some (.ref a_is_between)
  a_is_tuple_of : Addr
  d_is_tuple_of : FuncData
  F_is_tuple_of : Fun K "is_tuple_of" "is_tuple_of" s_is_tuple_of a_is_tuple_of d_is_tuple_of
  b_is_tuple_of : Binds K d_is_tuple_of p_is_tuple_of []
  g_is_tuple_of : mg "is_tuple_of" = some (.ref a_is_tuple_of)
  a_is_prices : Addr
  d_is_prices : FuncData
  F_is_prices : Fun K "is_prices" "is_prices" s_is_prices a_is_prices d_is_prices
  b_is_prices : Binds K d_is_prices p_is_prices []
  g_is_prices : mg "is_prices" = some (.ref a_is_prices)
  a_price_of_item : Addr
  d_price_of_item : FuncData
  F_price_of_item : Fun K "price_of_item" "price_of_item" s_price_of_item a_price_of_item d_price_of_item
  b_price_of_item : Binds K d_price_of_item p_price_of_item []
  g_price_of_item : mg "price_of_item" = some (.ref a_price_of_item)
  a_gain_above : Addr
  d_gain_above : FuncData
  F_gain_above : Fun K "gain_above" "gain_above" s_gain_above a_gain_above d_gain_above
  b_gain_above : Binds K d_gain_above p_gain_above []
  g_gain_above : mg "gain_above" = some (.ref a_gain_above)
  a_price_bound : Addr
  d_price_bound : FuncData
  F_price_bound : Fun K "price_bound" "price_bound" s_price_bound a_price_bound d_price_bound
  b_price_bound : Binds K d_price_bound p_price_bound []
  g_price_bound : mg "price_bound" = some (.ref a_price_bound)
  a_q_deck : Addr
  d_q_deck : FuncData
  F_q_deck : Fun K "_law_deck" "_law_deck" s_q_deck a_q_deck d_q_deck
  b_q_deck : Binds K d_q_deck p_q_deck []
  g_q_deck : mg "_law_deck" = some (.ref a_q_deck)
  a_q_one : Addr
  d_q_one : FuncData
  F_q_one : Fun K "_law_one" "_law_one" s_q_one a_q_one d_q_one
  b_q_one : Binds K d_q_one p_q_one []
  g_q_one : mg "_law_one" = some (.ref a_q_one)
  a_q_whole : Addr
  d_q_whole : FuncData
  F_q_whole : Fun K "_law_whole" "_law_whole" s_q_whole a_q_whole d_q_whole
  b_q_whole : Binds K d_q_whole p_q_whole []
  g_q_whole : mg "_law_whole" = some (.ref a_q_whole)
  a_q_same : Addr
  d_q_same : FuncData
  F_q_same : Fun K "_law_same" "_law_same" s_q_same a_q_same d_q_same
  b_q_same : Binds K d_q_same p_q_same []
  g_q_same : mg "_law_same" = some (.ref a_q_same)
  a_q_bent : Addr
  d_q_bent : FuncData
  F_q_bent : Fun K "_law_bent" "_law_bent" s_q_bent a_q_bent d_q_bent
  b_q_bent : Binds K d_q_bent p_q_bent []
  g_q_bent : mg "_law_bent" = some (.ref a_q_bent)
  a_q_next : Addr
  d_q_next : FuncData
  F_q_next : Fun K "_law_next" "_law_next" s_q_next a_q_next d_q_next
  b_q_next : Binds K d_q_next p_q_next []
  g_q_next : mg "_law_next" = some (.ref a_q_next)
  a_q_odd : Addr
  d_q_odd : FuncData
  F_q_odd : Fun K "_law_odd" "_law_odd" s_q_odd a_q_odd d_q_odd
  b_q_odd : Binds K d_q_odd p_q_odd []
  g_q_odd : mg "_law_odd" = some (.ref a_q_odd)
  a_q_great : Addr
  d_q_great : FuncData
  F_q_great : Fun K "_law_great" "_law_great" s_q_great a_q_great d_q_great
  b_q_great : Binds K d_q_great p_q_great []
  g_q_great : mg "_law_great" = some (.ref a_q_great)
  a_q_gains : Addr
  d_q_gains : FuncData
  F_q_gains : Fun K "_law_gains" "_law_gains" s_q_gains a_q_gains d_q_gains
  b_q_gains : Binds K d_q_gains p_q_gains []
  g_q_gains : mg "_law_gains" = some (.ref a_q_gains)
  a_q_capacity : Addr
  d_q_capacity : FuncData
  F_q_capacity : Fun K "_law_capacity" "_law_capacity" s_q_capacity a_q_capacity d_q_capacity
  b_q_capacity : Binds K d_q_capacity p_q_capacity []
  g_q_capacity : mg "_law_capacity" = some (.ref a_q_capacity)
  a_q_family : Addr
  d_q_family : FuncData
  F_q_family : Fun K "_law_family" "_law_family" s_q_family a_q_family d_q_family
  b_q_family : Binds K d_q_family p_q_family []
  g_q_family : mg "_law_family" = some (.ref a_q_family)
  a_q_limits : Addr
  d_q_limits : FuncData
  F_q_limits : Fun K "_law_limits" "_law_limits" s_q_limits a_q_limits d_q_limits
  b_q_limits : Binds K d_q_limits p_q_limits []
  g_q_limits : mg "_law_limits" = some (.ref a_q_limits)
  a_q_system : Addr
  d_q_system : FuncData
  F_q_system : Fun K "_law_system" "_law_system" s_q_system a_q_system d_q_system
  b_q_system : Binds K d_q_system p_q_system []
  g_q_system : mg "_law_system" = some (.ref a_q_system)
  a_q_item_price : Addr
  d_q_item_price : FuncData
  F_q_item_price : Fun K "_law_item_price" "_law_item_price" s_q_item_price a_q_item_price d_q_item_price
  b_q_item_price : Binds K d_q_item_price p_q_item_price []
  g_q_item_price : mg "_law_item_price" = some (.ref a_q_item_price)
  a_q_item_value : Addr
  d_q_item_value : FuncData
  F_q_item_value : Fun K "_law_item_value" "_law_item_value" s_q_item_value a_q_item_value d_q_item_value
  b_q_item_value : Binds K d_q_item_value p_q_item_value []
  g_q_item_value : mg "_law_item_value" = some (.ref a_q_item_value)
  a_q_price_bound : Addr
  d_q_price_bound : FuncData
  F_q_price_bound : Fun K "_law_price_bound" "_law_price_bound" s_q_price_bound a_q_price_bound d_q_price_bound
  b_q_price_bound : Binds K d_q_price_bound p_q_price_bound []
  g_q_price_bound : mg "_law_price_bound" = some (.ref a_q_price_bound)
  a_q_values : Addr
  d_q_values : FuncData
  F_q_values : Fun K "_law_values" "_law_values" s_q_values a_q_values d_q_values
  b_q_values : Binds K d_q_values p_q_values []
  g_q_values : mg "_law_values" = some (.ref a_q_values)
  a_law : Addr
  d_law : FuncData
  F_law : Fun K "law" "law" s_law a_law d_law
  b_law : Binds K d_law p_law []
  g_law : mg "law" = some (.ref a_law)
  m_all : mg "all" = none
  m_sum : mg "sum" = none
  m_enumerate : mg "enumerate" = none
  m_zip : mg "zip" = none
  m_isinstance : mg "isinstance" = none
  m_dict : mg "dict" = none
  m_str : mg "str" = none
  m_tuple : mg "tuple" = none
  m_int : mg "int" = none
  m_range : mg "range" = none
  m_list : mg "list" = none
  m_max : mg "max" = none
  m_bool : mg "bool" = none
  m_abs : mg "abs" = none
  m_min : mg "min" = none
  m_len : mg "len" = none
  m_repr : mg "repr" = none
  m_sorted : mg "sorted" = none
  t_MAX_PRICE : Tok
  g_MAX_PRICE : mg "MAX_PRICE" = some (.int (999999999999999999999999999999) t_MAX_PRICE)
end FD

namespace FD
open PySem PySem.Spec PyProof.Rows L2
section
variable {P : Program} {w : World} {K : PySem.W.Frag} {mg : Str → Option Value} {base : Heap} {D : Dk} {ca : Str → Addr}
theorem G_q_next (T : Txt K mg) : FnOk P w K mg base (L2.CX P w) 1 T.a_q_next T.d_q_next p_q_next (spF (Zdk D ca) 2 FF_q_next) := by
  refine T.F_q_next.okX sc_q_next (fun vs H Q E h => h.1) (fun cdv A outer s H vs Q E hr h => ?_)
  · obtain ⟨hvl, O, ds0, ds, o, t', hO1, hO2, dAt, dn, e, q0⟩ := h
    obtain ⟨m, n, rfl, hm, hm2, hc, rfl, rfl⟩ : ∃ m n, ds = [.hnd n, .int m] ∧ 0 < m ∧ m < 2 ^ 64 ∧ ds0.c < 2 ^ 40 ∧ o = .ok (.int (ds0.draw m)) false ∧ t' = ds0.step m := by
      unfold FF_q_next at e
      split at e
      · split at e
        · rename_i hh
          cases e
          exact ⟨_, _, rfl, hh.1, hh.2.1, hh.2.2, rfl, rfl⟩
        · cases e
      · cases e
    have hvs : vs = [.ref D.a, .int m] := by
      cases dn with
      | cons d1 r => cases r with
        | cons d2 r =>
          cases r
          rw [den_hnd d1, den_int d2]
    subst hvs
    obtain ⟨c0, big0, cells⟩ := ds0
    have dAt : D.At H c0 big0 cells := dAt
    have hc : c0 < 2 ^ 40 := hc
    have q : ∀ H' r c' big' , r = DS.draw m ⟨c0, big0, cells⟩ → DS.step m ⟨c0, big0, cells⟩ = ⟨c', big', cells⟩ → Keep D H H' → D.At H' c' big' cells → Q (.int r) H' := fun H' r c' big' h1 h2 kp d => by
      rw [h1]
      refine q0 _ H' ?_ (fun b o e n => kp b o e (fun z => n (.inl z)) fun z => n (.inr (.inl z))) (.int _)
      rw [h2]
      exact d
    refine ⟨_, PSs.nox (pss_cons (ps_while PassesOwn.never (pt_cmpR (op_neD hr.units) (pe_ix ix_list (pv 0) pe_int (fun _ _ => rfl)) (pe_lst pa_nil) (nomark _))
(pss_cons (ps_set (i := 2) sc_q_next.nd rfl (.inl rfl) (pe_ix ix_list (pe_ix ix_list (pv 0) pe_int (fun _ _ => rfl)) pe_int (fun _ _ => rfl)))
(pss_cons (ps_if (pt_cmpR op_gt (pv 2) pe_int (nomark _))
(pss_cons (ps_asg (pe_op op_fdivW (pv 2) (pv 1)) (pg_sub (pe_ix ix_list (pv 0) pe_int (fun _ _ => rfl)) pe_int set_list))
(pss_one (ps_ret (pe_op op_mod (pv 2) (pv 1)))))
pss_nil)
(pss_one (ps_expr (pe_bm PySem.F.plainAttrs_list PySem.F.slot_list_pop PySem.F.type_list_pop mt_popAt (pe_ix ix_list (pv 0) pe_int (fun _ _ => rfl)) (pa_cons pe_int pa_nil)))))))
(pss_cons (ps_asg (pe_op op_add (pe_ix ix_list (pv 0) pe_int (fun _ _ => rfl)) pe_int) (pg_sub (pv 0) pe_int set_list))
(pss_cons (ps_set (i := 3) sc_q_next.nd rfl (.inl rfl) (pe_op op_mod (pe_ix ix_list (pe_ix ix_list (pv 0) pe_int (fun _ _ => rfl)) (pe_op op_mod (pe_ix ix_list (pv 0) pe_int (fun _ _ => rfl)) (pe_callB (call_len_seq) (by rfl) T.m_len PySem.boot_len (pa_cons (pe_ix ix_list (pv 0) pe_int (fun _ _ => rfl)) pa_nil))) (fun _ _ => rfl)) pe_int))
(pss_cons (ps_set (i := 4) sc_q_next.nd rfl (.inl rfl) (pe_op op_add (pe_op op_add (pe_op op_mul (pv 3) (pe_op op_add pe_int (pe_op op_mul pe_int (pe_ix ix_list (pv 0) pe_int (fun _ _ => rfl))))) (pe_op op_mul (pe_op op_mul pe_int (pe_ix ix_list (pv 0) pe_int (fun _ _ => rfl))) (pe_ix ix_list (pv 0) pe_int (fun _ _ => rfl)))) pe_int))
(pss_cons (ps_set (i := 4) sc_q_next.nd rfl (.inl rfl) (pe_op op_mod (pv 4) pe_int))
(pss_one (ps_ret (pe_op op_mod (pe_op op_fdiv (pe_op op_mod (pe_op op_mul (pv 4) (pv 4)) pe_int) pe_int) (pv 1))))))))), ?_⟩
    refine while_by (fun σ H' => ∃ y2 big, σ = [some (.ref D.a), some (.int m), y2, none, none] ∧ D.At H' c0 big cells ∧ Keep D H H' ∧ drawB big m = drawB big0 m)
      (fun σ H' => match H' D.l1 with | some (.lst xs) => xs.length | _ => 0) ⟨_, big0, rfl, dAt, Keep.rfl', rfl⟩ (fun σ H1 hP => ?_) (fun σ H Q Q' f h => ?_)
    · obtain ⟨y2, big, rfl, d, kp, hbig⟩ := hP
      refine ⟨_, rfl, D.a, _, 0, .ref D.l1, rfl, rfl, .inl (.inl d.top), at0, Nat.zero_le _, fun p np => ?_⟩
      have d1 : D.At (upd H1 p (.lst [])) c0 big cells := d.new np
      have kp1 : Keep D H (upd H1 p (.lst [])) := kp.trans (Keep.new np)
      refine ⟨.list (big.map PyData.int), .list [], .lst (.inl (.inl d1.one)) (dp_ints big), .lst (.inl (.inl upd_same)) .nil, shaped_ints big, shaped_ints [], _, rfl, ?_⟩
      rw [eqv_nil]
      cases big with
      | nil =>
        refine iteF ?_
        -- the mixed draw
        refine ⟨_, rfl, D.a, _, 2, .int c0, rfl, rfl, .inl (.inl d1.top), at2, _, _, rfl, rfl, _, rfl, D.a, _, 2, 2, rfl, rfl, d1.top, ix2 (by simp), ?_⟩
        generalize hH2 : upd (upd H1 p (.lst [])) D.a _ = H2
        have d2 : D.At H2 (c0 + 1) [] cells := by
          subst hH2
          exact ⟨by rw [upd_same]; rfl, by rw [upd_ne d.ne1.symm]; exact d1.one, by rw [upd_ne d.ne2.symm]; exact d1.two, d.pos, d.ne1, d.ne2, d.ne3⟩
        have kp2 : Keep D H H2 := by
          subst hH2
          intro b x e n1 n2
          rw [upd_ne n1]
          exact kp1 b x e n1 n2
        have top : SqL K H2 D.a [.ref D.l1, .ref D.l2, .int (c0 + 1 : Nat)] := .inl (.inl d2.top)
        have two : SqL K H2 D.l2 (cells.map V.int) := .inl (.inl d2.two)
        have hl : 0 < (cells.length : Int) := by have := d.pos; omega
        have hj0 : 0 ≤ ((c0 + 1 : Nat) : Int) % (cells.length : Int) := Int.emod_nonneg _ (by omega)
        have hj1 : ((c0 + 1 : Nat) : Int) % (cells.length : Int) < cells.length := Int.emod_lt_of_pos _ hl
        obtain ⟨j, hj⟩ : ∃ j : Nat, ((c0 + 1 : Nat) : Int) % (cells.length : Int) = j := ⟨_, (Int.toNat_of_nonneg hj0).symm⟩
        have hjl : j < cells.length := by omega
        have gj : (cells.map V.int)[j]? = some (.int cells[j]) := by
          rw [List.getElem?_map, List.getElem?_eq_getElem hjl]
          rfl
        refine ⟨_, rfl, D.a, _, 1, .ref D.l2, rfl, rfl, top, at1, _, rfl, D.a, _, 2, .int (c0 + 1 : Nat), rfl, rfl, top, at2, _, rfl, D.a, _, 1, .ref D.l2, rfl, rfl, top, at1, D.l2, _, rfl, .inl two, _, _, rfl, rfl, by rw [List.length_map]; exact hl, ?_⟩
        refine ⟨D.l2, _, _, .int cells[j], rfl, rfl, two, by rw [List.length_map, hj]; exact atI_nat gj, _, _, rfl, rfl, (by show (0 : Int) < 2147483647; decide), ?_⟩
        have hx0 : 0 ≤ cells[j] % 2147483647 := Int.emod_nonneg _ (by decide)
        have hx1 : cells[j] % 2147483647 < 2147483647 := Int.emod_lt_of_pos _ (by decide)
        generalize hx : cells[j] % 2147483647 = x at hx0 hx1
        refine ⟨_, rfl, _, rfl, D.a, _, 2, .int (c0 + 1 : Nat), rfl, rfl, top, at2, _, _, rfl, rfl, .inl ⟨by decide, by decide⟩, _, _, rfl, rfl, _, _, rfl, rfl, .inl ⟨by omega, by omega⟩, ?_⟩
        refine ⟨_, rfl, D.a, _, 2, .int (c0 + 1 : Nat), rfl, rfl, top, at2, _, _, rfl, rfl, .inl ⟨by decide, by decide⟩, _, rfl, D.a, _, 2, .int (c0 + 1 : Nat), rfl, rfl, top, at2, _, _, rfl, rfl, .inl ⟨by omega, by omega⟩, _, _, rfl, rfl, _, _, rfl, rfl, ?_⟩
        refine ⟨_, rfl, _, _, rfl, rfl, (by show (0 : Int) < 2147483629; decide), ?_⟩
        generalize hy : (x * (16807 + 39373 * ((c0 + 1 : Nat) : Int)) + 40692 * ((c0 + 1 : Nat) : Int) * ((c0 + 1 : Nat) : Int) + 97) % (2147483629 : Int) = y
        have hy0 : 0 ≤ y := by rw [← hy]; exact Int.emod_nonneg _ (by decide)
        have hy1 : y < 2147483629 := by rw [← hy]; exact Int.emod_lt_of_pos _ (by decide)
        refine ⟨_, rfl, _, rfl, _, _, rfl, rfl, .inl ⟨by omega, by omega⟩, _, _, rfl, rfl, (by show (0 : Int) < 2147483587; decide), _, _, rfl, rfl, ⟨by decide, by decide⟩, _, rfl, _, _, rfl, rfl, hm, ?_⟩
        have hb : drawB big0 m = none := hbig.symm
        refine q H2 _ (c0 + 1) [] ?_ ?_ kp2 d2
        · unfold DS.draw
          simp only [hb]
          unfold mixed
          rw [hj, Int.toNat_natCast, List.getElem?_eq_getElem hjl, Option.getD_some]
        · unfold DS.step
          simp only [hb]
      | cons b rest =>
        refine iteT ?_
        have top : SqL K (upd H1 p (.lst [])) D.a [.ref D.l1, .ref D.l2, .int c0] := .inl (.inl d1.top)
        have one : SqL K (upd H1 p (.lst [])) D.l1 ((b :: rest).map V.int) := .inl (.inl d1.one)
        refine ⟨_, rfl, D.a, _, 0, .ref D.l1, rfl, rfl, top, at0, D.l1, _, 0, .int b, rfl, rfl, one, at0, ?_⟩
        refine ⟨_, rfl, _, _, rfl, rfl, _, rfl, ite2 (fun e => ?_) (fun e => ?_)⟩
        · refine ⟨_, rfl, _, rfl, _, _, rfl, rfl, wide_div (b := 64) hm (by omega) (by decide) (by decide), ?_⟩
          refine ⟨_, rfl, D.a, _, 0, .ref D.l1, rfl, rfl, top, at0, D.l1, _, 0, 0, rfl, rfl, d1.one, ix0 (by simp), ?_⟩
          refine ⟨_, rfl, _, rfl, _, _, rfl, rfl, hm, ?_⟩
          have hb : drawB big0 m = some (b % m, (b / m) :: rest) := by
            rw [← hbig]
            unfold drawB
            rw [if_pos (of_decide_eq_true e)]
          refine q _ _ c0 ((b / m) :: rest) ?_ ?_ ?_ ?_
          · unfold DS.draw
            simp only [hb]
          · unfold DS.step
            simp only [hb]
          · intro z x e n1 n2
            rw [upd_ne n2]
            exact kp1 z x e n1 n2
          · exact ⟨by rw [upd_ne d.ne1]; exact d1.top, by rw [upd_same]; rfl, by rw [upd_ne d.ne3]; exact d1.two, d.pos, d.ne1, d.ne2, d.ne3⟩
        · refine ⟨_, rfl, D.a, _, 0, .ref D.l1, rfl, rfl, top, at0, .inl ⟨rfl, _, one⟩, D.l1, _, 0, 0, .int b, rfl, rfl, d1.one, by decide, by decide, seq0 (by simp), rfl, ?_⟩
          refine ⟨⟨_, rest, rfl, ⟨by rw [upd_ne d.ne1]; exact d1.top, by rw [upd_same]; rfl, by rw [upd_ne d.ne3]; exact d1.two, d.pos, d.ne1, d.ne2, d.ne3⟩, ?_, ?_⟩, ?_⟩
          · intro z x e n1 n2
            rw [upd_ne n2]
            exact kp1 z x e n1 n2
          · rw [← hbig]
            conv => rhs; unfold drawB
            rw [if_neg (fun z => e (decide_eq_true z))]
          · have e1 := d.one
            simp only [upd_same, e1]
            simp
    · obtain ⟨v, hv, p, xs, i, z, e1, e2, hs, ha, hl, h⟩ := h
      refine ⟨v, hv, p, xs, i, z, e1, e2, hs, ha, hl, fun p2 n2 => ?_⟩
      obtain ⟨d, e, a1, a2, a3, a4, k, e5, q⟩ := h p2 n2
      exact ⟨d, e, a1, a2, a3, a4, k, e5, f _ _ q⟩
end
end FD

/-! F20: slices. -/
namespace FD
open PySem PySem.Spec PyProof.Rows L2
def partB (b : Bool) : D → Option (Option Int)
  | .non => if b then none else some none
  | .int i => if b then some (some i) else none
  | _ => none
def partF {T : Type} (b : Bool) (g : EF T) (k : Option Int → EF T) : EF T := bindF g fun r s => match peek s.1 r with
  | none => none
  | some d => match partB b d with
    | none => none
    | some i => k i s
def sl0 (n : Nat) (lo : Option Int) : Nat := HT.sIx n 0 lo
def sl1 (n : Nat) (hi : Option Int) : Nat := HT.sIx n n hi
/-- xs[lo:hi] -/
def cutL {A : Type} (xs : List A) (lo hi : Option Int) : List A := (xs.drop (sl0 xs.length lo)).take (sl1 xs.length hi - sl0 xs.length lo)
def sliceD : D → Option Int → Option Int → Option (D × Bool)
  | .lst ds, lo, hi => some (.lst (cutL ds lo hi), true)
  | .tup ds, lo, hi => some (.tup (cutL ds lo hi), false)
  | _, _, _ => none
def slF {T : Type} (bl bh : Bool) (f g h : EF T) : EF T := bindF f fun ra => partF bl g fun lo => partF bh h fun hi => doneF fun τ => match peek τ (hold ra) with
  | some x => sliceD x lo hi
  | none => none
/-- a part of a slice, by data -/
structure PD {Z : Wd} (X : Cx) (C : Fx Z) (b : Bool) (e : Option Expr) (f : EF Z.T) : Prop where
  ex : ∃ tl, PO X e tl ∧ ∀ σ H (Q : Option Int → Hp → Prop), tF C f σ H (fun x H1 => ∃ i, (if b then ∃ n, x = .int n ∧ i = some n else x = .non ∧ i = none) ∧ Q i H1) → tl σ H Q
section
variable {Z : Wd} {C : Fx Z} {X : Cx} {e a b : Expr} {f g h : EF Z.T} {pos p2 : Pos} {lo hi : Option Expr}
theorem pd_no : PD (Z := Z) X C false none (conF .non) := ⟨_, po_none, fun σ H Q q => by
  obtain ⟨ow, τ, t, o, s', R, h0, e, h⟩ := q
  cases e
  obtain ⟨i, h1, h2⟩ := h ow .non H R ⟨h0, .non⟩ .refl
  simp only [Bool.false_eq_true, if_false, true_and] at h1
  subst h1
  exact h2⟩
theorem pd_some (h : PE X e (tF C f)) : PD X C true (some e) f := ⟨_, po_some h, fun σ H Q q => tF_mono q fun x H1 ⟨i, h1, h2⟩ => by
  simp only [if_true] at h1
  obtain ⟨n, rfl, rfl⟩ := h1
  exact ⟨n, rfl, h2⟩⟩
theorem Kn.part {ow : Nat → Option Addr} {τ : List Sl} {t : Z.T} {σ : L2.St} {H : Hp} {Q : VK} {bb : Bool} {k : Option Int → EF Z.T} (h : Kn C (partF bb g k) ow τ t σ H Q) (R : C.Rel ow τ t σ H) (h0 : ow 0 = none) :
    FD.tF C g σ H (fun x H1 => ∃ i, (if bb then ∃ n, x = .int n ∧ i = some n else x = .non ∧ i = none) ∧ ∃ ow1 τ1 t1, C.Rel ow1 τ1 t1 σ H1 ∧ ow1 0 = none ∧ Kn C (k i) ow1 τ1 t1 σ H1 Q ∧ Ext (C.Hid ow) H (C.Hid ow1) H1) := by
  unfold partF at h
  refine tF_mono (h.bind R h0) fun x H1 ⟨ow1, τ1, t1, r, R1, r1, ⟨o, s', e, hq⟩, x1⟩ => ?_
  cases p1 : FD.peek τ1 r with
  | none => simp only [p1] at e; cases e
  | some d =>
    cases p2 : partB bb d with
    | none => simp only [p1, p2] at e; cases e
    | some i =>
      simp only [p1, p2] at e
      obtain ⟨ow2, R2, z2, r2, x2⟩ := r1.hold R1
      refine ⟨i, ?_, ow2, τ1, t1, R2, z2, ⟨o, s', e, hq.from x2⟩, x1.trans x2⟩
      have sh := r1.peek R1 p1
      unfold partB at p2
      split at p2
      · cases bb
        · cases p2
          exact ⟨sh.non, rfl⟩
        · cases p2
      · cases bb
        · cases p2
        · cases p2
          exact ⟨_, sh.int, rfl⟩
      · cases p2
theorem DenA.cut {O : Addr → Prop} {H : Hp} {xs : List V} {ds : List D} (c : DenA Z O H xs ds) (l u : Option Int) : DenA Z O H (cutV xs l u) (cutL ds l u) := by
  unfold cutV cutL sl0 sl1
  rw [c.len]
  exact (c.drop _).take _
theorem cutL_whole {A : Type} (xs : List A) (l u : Option Int) (h : HT.sIx xs.length 0 l = 0 ∧ HT.sIx xs.length xs.length u = xs.length) : cutL xs l u = xs := by
  unfold cutL sl0 sl1
  rw [h.1, h.2]
  simp
theorem cut_of {x : V} {l u : Option Int} {H : Hp} {Q : VK} {O : Addr → Prop} {d : D} {z : D × Bool} (hO : ∀ p, H p = none → ¬ O p) (sx : Shows Z O H x d) (e : sliceD d l u = some z) (q : ∀ v H', Gets Z O H v H' z → Q v H') :
    rSlL X.K x l u H Q ∨ rSlA X.K x l u H Q := by
  unfold sliceD at e
  split at e
  · cases e
    obtain ⟨a, xs, rfl, h1, c1⟩ := sx.lst
    exact .inl ⟨a, xs, rfl, SqL.of h1, fun p hp => q _ _ (.lst hp (c1.cut l u))⟩
  · cases e
    obtain ⟨a, xs, rfl, h1, c1, n⟩ := sx.tup
    refine .inr ⟨a, xs, rfl, SqT.of h1, fun w => q _ _ (.same ?_), fun _ p hp => q _ _ (.tup hO hp (c1.cut l u))⟩
    rw [cutL_whole _ l u (by rw [← c1.len]; exact w)]
    exact .ref h1 n (.tup c1)
  · cases e
theorem sl_of {bl bh : Bool} (hl : PD X C bl lo g) (hh : PD X C bh hi h) : ∃ tl th, PO X lo tl ∧ PO X hi th ∧ ∀ σ H Q, tF C (slF bl bh f g h) σ H Q → tSl (fun x l u H Q => rSlL X.K x l u H Q ∨ rSlA X.K x l u H Q) (tF C f) tl th σ H Q := by
  obtain ⟨tl, pl, kl⟩ := hl.ex
  obtain ⟨th, ph, kh⟩ := hh.ex
  refine ⟨tl, th, pl, ph, fun σ H Q q => ?_⟩
  obtain ⟨ow, τ, t, R, h0, q⟩ := q.at_
  refine tF_mono (q.bind R h0) fun x H1 ⟨ow1, τ1, t1, ra, R1, r1, h1, _⟩ => ?_
  obtain ⟨ow1', R1', z1, r1', x1⟩ := r1.hold R1
  refine kl σ H1 _ (tF_mono (Kn.part (h1.from x1) R1' z1) fun y H2 ⟨i, hi, ow2, τ2, t2, R2, z2, h2, x2⟩ => ⟨i, hi, ?_⟩)
  refine kh σ H2 _ (tF_mono (Kn.part h2 R2 z2) fun y H3 ⟨j, hj, ow3, τ3, t3, R3, z3, h3, x3⟩ => ⟨j, hj, ?_⟩)
  obtain ⟨z, e, k⟩ := h3.done R3 z3
  cases pa : peek τ3 (hold ra) with
  | none => simp only [pa] at e; cases e
  | some dx =>
    simp only [pa] at e
    exact cut_of (fun p hp => R3.nohid hp) (r1'.later R3 (x2.trans x3) pa) e k
theorem ev_slice {bl bh : Bool} (he : PE X a (tF C f)) (hl : PD X C bl lo g) (hh : PD X C bh hi h) : PE X (.Subscript a (.Slice lo hi none p2) pos) (tF C (slF bl bh f g h)) := by
  obtain ⟨tl, th, pl, ph, k⟩ := sl_of (f := f) hl hh
  exact ⟨fun pins s σ H Q I q => (pe_slice (SlR.or sl_list sl_tupA) he pl ph).run pins s σ H Q I (k σ H Q q)⟩
end
end FD

/-! F21: [::-1] of lists and tuples. -/
namespace FD
open PySem PySem.Spec PyProof.Rows L2 HT
section
variable {prog : Program} {w : World} {A : Around} {E : Value → Shared → Prop} {s : Shared}
theorem sliceApplied_rev {sl : Addr} {vl vu vs : Value} {n : Nat} {Q : Int × Int × Nat → Shared → Prop} (hs : s.heap.IsSliceOf sl vl vu vs) (pl : IsPart vl none) (pu : IsPart vu none) (ps : IsPart vs (some (-1)))
    (h : Q ((n : Int) - 1, -1, n) s) : wpAny (model prog w) A (Builtin.Slice.sliceApplied (.ref sl) (pure (n : Int))) Q E s := by
  obtain ⟨os, hos, hcs, hds⟩ := id hs
  unfold Builtin.Slice.sliceApplied Builtin.Slice.sliceFields
  refine wpAny_bind (wpAny_bind (wpAny_field hos hds (x := vl) rfl (wpAny_bind (wpAny_field hos hds (x := vu) rfl (wpAny_bind (wpAny_field hos hds (x := vs) rfl (wpAny_pure ?_)))))))
  refine wpAny_bind (slicePart_ ps ?_)
  show wpAny _ _ (if ((-1 : Int) == 0) = true then _ else _) _ _ s
  rw [if_neg (by decide)]
  refine wpAny_bind (slicePart_ pl (wpAny_bind (slicePart_ pu (wpAny_bind (wpAny_pure ?_)))))
  show wpAny _ _ (match Builtin.Slice.sliceAdjust none none (-1) (n : Int) with | (lo, hi) => pure (lo, (-1 : Int), Builtin.Slice.slicePlaces lo hi (-1))) _ _ s
  have e1 : Builtin.Slice.sliceAdjust none none (-1) (n : Int) = ((n : Int) - 1, -1) := by
    unfold Builtin.Slice.sliceAdjust
    rfl
  have e2 : Builtin.Slice.slicePlaces ((n : Int) - 1) (-1) (-1) = n := by
    unfold Builtin.Slice.slicePlaces
    simp
    omega
  rw [e1]
  show wpAny _ _ (pure ((n : Int) - 1, (-1 : Int), Builtin.Slice.slicePlaces ((n : Int) - 1) (-1) (-1))) _ _ s
  rw [e2]
  exact wpAny_pure h
theorem pick_rev (xs : Array Value) : ((List.range xs.size).filterMap fun (m : Nat) => xs[((xs.size : Int) - 1 + (m : Int) * (-1)).toNat]?).toArray = xs.toList.reverse.toArray := by
  have e : (fun (m : Nat) => xs[((xs.size : Int) - 1 + (m : Int) * (-1)).toNat]?) = (fun k => xs[k]?) ∘ fun m => xs.size - 1 - m := by
    funext m
    have : ((xs.size : Int) - 1 + (m : Int) * (-1)).toNat = xs.size - 1 - m := by omega
    show xs[((xs.size : Int) - 1 + (m : Int) * (-1)).toNat]? = xs[xs.size - 1 - m]?
    rw [this]
  rw [e, ← List.filterMap_map, PySem.W.krv_range, List.filterMap_reverse, PySem.W.krv_all]
theorem getItem_tuple_rev {t sl : Addr} {items : Array Value} {vl vu vs : Value} {Q : Value → Shared → Prop} (ht : IsTup s.heap t items) (hs : s.heap.IsSliceOf sl vl vu vs) (pl : IsPart vl none) (pu : IsPart vu none) (ps : IsPart vs (some (-1)))
    (h : Q (.ref s.heap.objs.size) { s with heap := s.heap.push { cls := .type "tuple", data := .seq items.toList.reverse.toArray } })
    (hsz : items.size ≤ sizeLine) : wpAny (model prog w) A (getItem (.ref t) (.ref sl)) Q E s := by
  have htake : sizeOk (.seq items.toList.reverse.toArray) := by
    show items.toList.reverse.toArray.size ≤ sizeLine
    rw [List.size_toArray, List.length_reverse, Array.length_toList]
    omega
  obtain ⟨os, hos, hcs, hds⟩ := id hs
  have hTs : s.TypeIs (.ref sl) "slice" := ⟨os, hos, hcs⟩
  unfold getItem
  try with_reducible refine wpAny_holding ?_
  first | refine wpAny_bind (wpAny_pure ?_) | skip
  refine wpAny_bind (wpAny_sequenceKey ht.typeIs (by decide) ?_)
  refine wpAny_bind (wpAny_callSpecial?_slot (name := Str.ofString "__getitem__") ht.typeIs PyProof.Rows.slot_tuple_getitem
    (wpAny_call_entry PyProof.Rows.slot_tuple_getitem ht.typeIs entry_tuple_getitem ?_ (args_tuple_getitem _ _)))
  show wpAny _ _ (Builtin.Tuple.tupleItemsOf (.ref t) >>= _) _ _ s
  refine wpAny_bind (tupleItemsOf_ ht ?_)
  refine wpAny_bind (wpAny_typeOf hTs ?_)
  rw [if_pos (by decide)]
  refine wpAny_bind (sliceApplied_rev hs pl pu ps ?_)
  have hno : ¬ ((((items.size : Int) - 1) == 0 && (-1 : Int) == 1 && items.size == items.size) = true) := by
    intro q
    simp at q
  show wpAny _ _ (if (((items.size : Int) - 1) == 0 && (-1 : Int) == 1 && items.size == items.size) = true then _ else _) _ _ s
  rw [if_neg hno, pick_rev]
  first
    | exact wpAny_bind (m := Builtin.Tuple.tupleExact _) (wpAny_newObj_type (wpAny_pure ⟨_, rfl, wpAny_pure h⟩) htake)
    | exact wpAny_bind (m := Builtin.Tuple.tupleExact _) (wpAny_newObj_type (wpAny_bind (wpAny_pure (wpAny_pure ⟨_, rfl, wpAny_pure h⟩))) htake)
    | exact wpAny_bind (wpAny_bind (m := Builtin.Tuple.tupleExact _) (wpAny_newObj_type (wpAny_pure (wpAny_pure ⟨_, rfl, wpAny_pure h⟩)) htake))
    | exact wpAny_bind (wpAny_bind (m := Builtin.Tuple.tupleExact _) (wpAny_newObj_type (wpAny_pure ⟨_, rfl, wpAny_pure h⟩) htake))
end
def rRv (K : PySem.W.Frag) : V → Hp → VK → Prop := fun x H Q => (∃ a xs, x = .ref a ∧ SqL K H a xs ∧ ∀ p, H p = none → Q (.ref p) (upd H p (.lst xs.reverse))) ∨ (∃ a xs, x = .ref a ∧ SqT K H a xs ∧ ∀ p, H p = none → Q (.ref p) (upd H p (.tup xs.reverse)))
theorem pe_rev {X : Cx} {e : Expr} {te : TE} {k : Nat} {p1 p2 p3 pos : Pos} (he : PE X e te) : PE X (.Subscript e (.Slice none none (some (.UnaryOp .USub (.Constant (.int 1) k p1) p2)) p3) pos) (tUn (rRv X.K) te) := by
  refine ⟨fun pins s σ H Q I h => ?_⟩
  refine Subscript_ (thn (he.run pins s σ H _ I h) fun v s1 ⟨x, H1, I1, r1, q1⟩ => ?_)
  have hst : PO X (some (.UnaryOp .USub (.Constant (.int 1) k p1) p2)) (tPart (tUn (rU fun i => .int (-i)) (tC (.int 1)))) := po_some (pe_un un_neg pe_int)
  refine wpAny_Slice (thn (po_none.run pins s1 σ H1 (fun o H2 => o = none ∧ H2 = H1) I1 ⟨rfl, rfl⟩) fun vl s2 ⟨l, H2, I2, pl, el, e2⟩ => ?_)
  subst el e2
  refine thn (po_none.run pins s2 σ H2 (fun o H3 => o = none ∧ H3 = H2) I2 ⟨rfl, rfl⟩) fun vu s3 ⟨u, H3, I3, pu, eu, e3⟩ => ?_
  subst eu e3
  refine thn (hst.run pins s3 σ H3 (fun o H4 => o = some (-1) ∧ H4 = H3) I3 ⟨1, rfl, -1, rfl, rfl, rfl⟩) fun vs s4 ⟨o, H4, I4, ps, eo, e4⟩ => ?_
  subst eo e4
  have I5 : Inv X pins σ H4 { s4 with heap := s4.heap.push { cls := .type "slice", data := .fields #[vl, vu, vs] } } := I4.kept (t' := s4.toks) fun b ob q => Heap.get?_push_of_some _ q
  rcases q1 with ⟨a, xs, ex, hx, q⟩ | ⟨a, xs, ex, hx, q⟩
  · subst ex
    cases r1
    obtain ⟨its, r, ht, hz⟩ := I5.list hx
    have hlen := r.length
    show wpAny (model X.prog X.w) X.A (subscriptTail e (.Slice none none (some (.UnaryOp .USub (.Constant (.int 1) k p1) p2)) p3) (.ref a) (.ref s4.heap.objs.size)) (EP X pins σ Q) X.xe { s4 with heap := s4.heap.push { cls := .type "slice", data := .fields #[vl, vu, vs] } }
    refine tail_any (ops := [.ref a, .ref s4.heap.objs.size]) ht.isList.typeIs (PySem.slot_list_getitem.lookup) ?_ (by with_unfolding_all rfl)
    refine wpAny_getItem_list_slice ht.isList (Heap.IsSliceOf.new _ vl vu vs) pl pu ps (by decide) ?_ (by rw [List.size_toArray]; omega)
    rw [PySem.W.krv_pick]
    refine ⟨.ref _, _, I5.laid (t' := s4.toks) (o := .lst xs.reverse) (fun b ob q => Heap.get?_push_of_some _ q) (Nat.le_refl _) ?_, rfl, q _ (I5.hok.fresh (Nat.le_refl _))⟩
    exact ⟨by rw [List.length_reverse]; exact hz, _, 0, r.reverse, Heap.get?_push_size _ rfl⟩
  · subst ex
    cases r1
    obtain ⟨its, r, ht, hz⟩ := I5.tuple hx
    have hlen := r.length
    show wpAny (model X.prog X.w) X.A (subscriptTail e (.Slice none none (some (.UnaryOp .USub (.Constant (.int 1) k p1) p2)) p3) (.ref a) (.ref s4.heap.objs.size)) (EP X pins σ Q) X.xe { s4 with heap := s4.heap.push { cls := .type "slice", data := .fields #[vl, vu, vs] } }
    refine tail_any (ops := [.ref a, .ref s4.heap.objs.size]) ht.typeIs (PyProof.Rows.slot_tuple_getitem.lookup) ?_ (by with_unfolding_all rfl)
    refine getItem_tuple_rev ht (Heap.IsSliceOf.new _ vl vu vs) pl pu ps ?_ (by rw [List.size_toArray]; omega)
    refine ⟨.ref _, _, I5.laid (t' := s4.toks) (o := .tup xs.reverse) (fun b ob q => Heap.get?_push_of_some _ q) (Nat.le_refl _) ?_, rfl, q _ (I5.hok.fresh (Nat.le_refl _))⟩
    exact ⟨by rw [List.length_reverse]; exact hz, _, r.reverse, IsTup.new _ _⟩
theorem DenA.rev {Z : Wd} {O : Addr → Prop} {H : Hp} : ∀ {vs : List V} {ds : List D}, DenA Z O H vs ds → DenA Z O H vs.reverse ds.reverse
  | _, _, .nil => .nil
  | _, _, .cons h r => by
    rw [List.reverse_cons, List.reverse_cons]
    exact (DenA.rev r).app (.one h)
def revD : D → Option (D × Bool)
  | .lst ds => some (.lst ds.reverse, true)
  | .tup ds => some (.tup ds.reverse, false)
  | _ => none
theorem revR {Z : Wd} {K : PySem.W.Frag} {x : V} {H : Hp} {Q : VK} (h : rD1 Z revD x H Q) : rRv K x H Q := by
  obtain ⟨O, dx, z, hO, sx, e, q⟩ := h
  unfold revD at e
  split at e
  · cases e
    obtain ⟨a, xs, rfl, h1, c1⟩ := sx.lst
    exact .inl ⟨a, xs, rfl, SqL.of h1, fun p hp => q _ _ (.lst hp c1.rev)⟩
  · cases e
    obtain ⟨a, xs, rfl, h1, c1, _⟩ := sx.tup
    exact .inr ⟨a, xs, rfl, SqT.of h1, fun p hp => q _ _ (.tup hO hp c1.rev)⟩
  · cases e
def revF {T : Type} (f : EF T) : EF T := unF revD f
theorem ev_rev {Z : Wd} {X : Cx} {C : Fx Z} {f : EF Z.T} {e : Expr} {k : Nat} {p1 p2 p3 pos : Pos} (he : PE X e (tF C f)) : PE X (.Subscript e (.Slice none none (some (.UnaryOp .USub (.Constant (.int 1) k p1) p2)) p3) pos) (tF C (revF f)) :=
  ⟨fun pins s σ H Q I q => (pe_rev he).run pins s σ H Q I (tF_mono (tUn_of q) fun x H1 h => revR h)⟩
end FD

/-! F22: running functions of data by simp: each step waits for the one before. -/
namespace FD
open PySem PySem.Spec PyProof.Rows L2
section
variable {T : Type}
/-! ### results -/
def pkS : Option Sl → Option D
  | some (.v d) => some d
  | some (.o d) => some d
  | _ => none
def gvS (i : Nat) (τ : List Sl) : Option Sl → Option (D × List Sl)
  | some (.v d) => some (d, τ)
  | some (.o d) => some (d, τ.set i (.v d))
  | _ => none
def gvB (d : D) : Option (List D × List Sl) → Option (List D × List Sl)
  | some (ds, τ) => some (d :: ds, τ)
  | none => none
def gvA (rs : List Res) : Option (D × List Sl) → Option (List D × List Sl)
  | some (d, τ) => gvB d (giveAll τ rs)
  | none => none
def pkB : Option D → Option (List D) → Option (List D)
  | some d, some ds => some (d :: ds)
  | _, _ => none
theorem q_hold_d {d : D} : hold (.d d) = .d d := (rfl)
theorem q_hold_f {d : D} : hold (.f d) = .d d := (rfl)
theorem q_hold_s {i : Nat} : hold (.s i) = .s i := (rfl)
theorem q_peek_d {τ : List Sl} {d : D} : peek τ (.d d) = some d := (rfl)
theorem q_peek_f {τ : List Sl} {d : D} : peek τ (.f d) = some d := (rfl)
theorem q_peek_s {τ : List Sl} {i : Nat} : peek τ (.s i) = pkS τ[i]? := by
  unfold peek pkS
  rfl
theorem q_pkS_v {d : D} : pkS (some (.v d)) = some d := (rfl)
theorem q_pkS_o {d : D} : pkS (some (.o d)) = some d := (rfl)
theorem q_give_d {τ : List Sl} {d : D} : give τ (.d d) = some (d, τ) := (rfl)
theorem q_give_f {τ : List Sl} {d : D} : give τ (.f d) = some (d, τ) := (rfl)
theorem q_give_s {τ : List Sl} {i : Nat} : give τ (.s i) = gvS i τ τ[i]? := by
  unfold give gvS
  rfl
theorem q_gvS_v {i : Nat} {τ : List Sl} {d : D} : gvS i τ (some (.v d)) = some (d, τ) := (rfl)
theorem q_gvS_o {i : Nat} {τ : List Sl} {d : D} : gvS i τ (some (.o d)) = some (d, τ.set i (.v d)) := (rfl)
theorem q_giveAll_n {τ : List Sl} : giveAll τ [] = some ([], τ) := (rfl)
theorem q_giveAll_c {τ : List Sl} {r : Res} {rs : List Res} : giveAll τ (r :: rs) = gvA rs (give τ r) := by
  unfold giveAll
  cases give τ r with
  | none => rfl
  | some z =>
    unfold gvA
    simp only
    cases giveAll z.2 rs with
    | none => rfl
    | some w => rfl
theorem q_gvA {rs : List Res} {d : D} {τ : List Sl} : gvA rs (some (d, τ)) = gvB d (giveAll τ rs) := (rfl)
theorem q_gvB {d : D} {ds : List D} {τ : List Sl} : gvB d (some (ds, τ)) = some (d :: ds, τ) := (rfl)
theorem q_peekAll_n {τ : List Sl} : peekAll τ [] = some [] := (rfl)
theorem q_peekAll_c {τ : List Sl} {r : Res} {rs : List Res} : peekAll τ (r :: rs) = pkB (peek τ r) (peekAll τ rs) := by
  show (match peek τ r, peekAll τ rs with
    | some d, some ds => some (d :: ds)
    | _, _ => none) = _
  cases peek τ r with
  | none => rfl
  | some d =>
    cases peekAll τ rs with
    | none => rfl
    | some ds => rfl
theorem q_pkB {d : D} {ds : List D} : pkB (some d) (some ds) = some (d :: ds) := (rfl)
theorem q_resOf_t {d : D} : resOf (d, true) = .f d := (rfl)
theorem q_resOf_f {d : D} : resOf (d, false) = .d d := (rfl)
/-! ### expressions -/
def varK (i : Nat) (s : Sg T) : Option Sl → Option (Out × Sg T)
  | some (.v _) => some (.ok (.s i), s)
  | some (.o _) => some (.ok (.s i), s)
  | _ => none
theorem q_var {i : Nat} {τ : List Sl} {t : T} : varF i (τ, t) = varK i (τ, t) τ[i]? := by
  unfold varF varK
  rfl
theorem q_varK_v {i : Nat} {s : Sg T} {d : D} : varK i s (some (.v d)) = some (.ok (.s i), s) := (rfl)
theorem q_varK_o {i : Nat} {s : Sg T} {d : D} : varK i s (some (.o d)) = some (.ok (.s i), s) := (rfl)
theorem q_con {d : D} {s : Sg T} : conF d s = some (.ok (.d d), s) := (rfl)
def bnd (k : Res → EF T) : Option (Out × Sg T) → Option (Out × Sg T)
  | none => none
  | some (.ex c fs, s1) => some (.ex c fs, s1)
  | some (.ok r, s1) => k r s1
def dnO (s : Sg T) : Option (D × Bool) → Option (Out × Sg T)
  | none => none
  | some z => some (.ok (resOf z), s)
def op2 (op : D → D → Option (D × Bool)) : Option D → Option D → Option (D × Bool)
  | some x, some y => op x y
  | _, _ => none
def op1 (op : D → Option (D × Bool)) : Option D → Option (D × Bool)
  | some x => op x
  | _ => none
theorem q_bnd {k : Res → EF T} {r : Res} {s : Sg T} : bnd k (some (.ok r, s)) = k r s := (rfl)
theorem q_dnO {s : Sg T} {z : D × Bool} : dnO s (some z) = some (.ok (resOf z), s) := (rfl)
theorem q_op2 {op : D → D → Option (D × Bool)} {x y : D} : op2 op (some x) (some y) = op x y := (rfl)
theorem q_op1 {op : D → Option (D × Bool)} {x : D} : op1 op (some x) = op x := (rfl)
def binK2 (op : D → D → Option (D × Bool)) (ra rb : Res) : EF T := fun s => dnO s (op2 op (peek s.1 (hold ra)) (peek s.1 (hold rb)))
def binK (op : D → D → Option (D × Bool)) (fb : EF T) (ra : Res) : EF T := fun s => bnd (binK2 op ra) (fb s)
theorem q_bin {op : D → D → Option (D × Bool)} {fa fb : EF T} {s : Sg T} : binF op fa fb s = bnd (binK op fb) (fa s) := (rfl)
theorem q_binK {op : D → D → Option (D × Bool)} {fb : EF T} {ra : Res} {s : Sg T} : binK op fb ra s = bnd (binK2 op ra) (fb s) := (rfl)
theorem q_binK2 {op : D → D → Option (D × Bool)} {ra rb : Res} {s : Sg T} : binK2 op ra rb s = dnO s (op2 op (peek s.1 (hold ra)) (peek s.1 (hold rb))) := (rfl)
def unK (op : D → Option (D × Bool)) (ra : Res) : EF T := fun s => dnO s (op1 op (peek s.1 (hold ra)))
theorem q_un {op : D → Option (D × Bool)} {fa : EF T} {s : Sg T} : unF op fa s = bnd (unK op) (fa s) := by
  unfold unF bindF doneF bnd unK dnO op1
  rcases fa s with _ | ⟨r | _, s1⟩
  · rfl
  · simp only
    cases peek s1.1 (hold r) <;> rfl
  · rfl
theorem q_unK {op : D → Option (D × Bool)} {ra : Res} {s : Sg T} : unK op ra s = dnO s (op1 op (peek s.1 (hold ra))) := (rfl)
def brB (g h : EF T) (s : Sg T) : Option D → Option (Out × Sg T)
  | some (.bl true) => g s
  | some (.bl false) => h s
  | _ => none
def brK (g h : EF T) (r : Res) : EF T := fun s => brB g h s (peek s.1 (hold r))
theorem q_branch {f g h : EF T} {s : Sg T} : branchF f g h s = bnd (brK g h) (f s) := (rfl)
theorem q_brK {g h : EF T} {r : Res} {s : Sg T} : brK g h r s = brB g h s (peek s.1 (hold r)) := (rfl)
theorem q_brB_t {g h : EF T} {s : Sg T} : brB g h s (some (.bl true)) = g s := (rfl)
theorem q_brB_f {g h : EF T} {s : Sg T} : brB g h s (some (.bl false)) = h s := (rfl)
theorem q_and {f g : EF T} {s : Sg T} : andF f g s = bnd (brK g (conF (.bl false))) (f s) := (rfl)
theorem q_or {f g : EF T} {s : Sg T} : orF f g s = bnd (brK (conF (.bl true)) g) (f s) := (rfl)
theorem q_not {f : EF T} {s : Sg T} : notF f s = bnd (brK (conF (.bl false)) (conF (.bl true))) (f s) := (rfl)
/-! ### arguments -/
def cnsA (r : Res) : Option (OutA × Sg T) → Option (OutA × Sg T)
  | none => none
  | some (.ex c fs, s2) => some (.ex c fs, s2)
  | some (.ok rs, s2) => some (.ok (hold r :: rs), s2)
def cnsK (g : AF T) : Option (Out × Sg T) → Option (OutA × Sg T)
  | none => none
  | some (.ex c fs, s1) => some (.ex c fs, s1)
  | some (.ok r, s1) => cnsA r (g s1)
theorem q_nilA {s : Sg T} : nilA s = some (.ok [], s) := (rfl)
theorem q_consA {f : EF T} {g : AF T} {s : Sg T} : consA f g s = cnsK g (f s) := by
  unfold consA cnsK cnsA
  rcases f s with _ | ⟨_ | _, _⟩ <;> rfl
theorem q_cnsK {g : AF T} {r : Res} {s : Sg T} : cnsK g (some (.ok r, s)) = cnsA r (g s) := (rfl)
theorem q_cnsA {r : Res} {rs : List Res} {s : Sg T} : cnsA r (some (.ok rs, s)) = some (.ok (hold r :: rs), s) := (rfl)
def abnd (k : List Res → EF T) : Option (OutA × Sg T) → Option (Out × Sg T)
  | none => none
  | some (.ex c fs, s1) => some (.ex c fs, s1)
  | some (.ok r, s1) => k r s1
theorem q_abnd {k : List Res → EF T} {r : List Res} {s : Sg T} : abnd k (some (.ok r, s)) = k r s := (rfl)
def dspO (mk : List D → D) (fr : Bool) (t : T) : Option (List D × List Sl) → Option (Out × Sg T)
  | none => none
  | some (ds, τ) => if ds.length ≤ LEN then some (.ok (resOf (mk ds, fr)), (τ, t)) else none
def dspK (mk : List D → D) (fr : Bool) (rs : List Res) : EF T := fun s => dspO mk fr s.2 (giveAll s.1 rs)
theorem q_disp {mk : List D → D} {fr : Bool} {g : AF T} {s : Sg T} : dispF mk fr g s = abnd (dspK mk fr) (g s) := by
  unfold dispF abnd dspK dspO
  rcases g s with _ | ⟨_ | _, _⟩ <;> rfl
theorem q_dspK {mk : List D → D} {fr : Bool} {rs : List Res} {s : Sg T} : dspK mk fr rs s = dspO mk fr s.2 (giveAll s.1 rs) := (rfl)
theorem q_dspO {mk : List D → D} {fr : Bool} {ds : List D} {τ : List Sl} {t : T} : dspO mk fr t (some (ds, τ)) = if ds.length ≤ LEN then some (.ok (resOf (mk ds, fr)), (τ, t)) else none := (rfl)
theorem q_tup {g : AF T} {s : Sg T} : tupF g s = abnd (dspK .tup false) (g s) := q_disp
theorem q_lst {g : AF T} {s : Sg T} : lstF g s = abnd (dspK .lst true) (g s) := q_disp
def opA (op : List D → Option (D × Bool)) : Option (List D) → Option (D × Bool)
  | some ds => op ds
  | none => none
theorem q_opA {op : List D → Option (D × Bool)} {ds : List D} : opA op (some ds) = op ds := (rfl)
def clK (op : List D → Option (D × Bool)) (rs : List Res) : EF T := fun s => dnO s (opA op (peekAll s.1 rs))
theorem q_call {op : List D → Option (D × Bool)} {g : AF T} {s : Sg T} : callF op g s = abnd (clK op) (g s) := by
  unfold callF abnd clK dnO opA
  rcases g s with _ | ⟨rs | _, s1⟩
  · rfl
  · simp only
    cases peekAll s1.1 rs <;> rfl
  · rfl
theorem q_clK {op : List D → Option (D × Bool)} {rs : List Res} {s : Sg T} : clK op rs s = dnO s (opA op (peekAll s.1 rs)) := (rfl)
def fOut (τ : List Sl) : Option (FOut × T) → Option (Out × Sg T)
  | none => none
  | some (.ok d fr, t) => some (.ok (resOf (d, fr)), (τ, t))
  | some (.ex c fs, t) => some (.ex c fs, (τ, t))
def ucO (F : FF T) (t : T) : Option (List D × List Sl) → Option (Out × Sg T)
  | none => none
  | some (ds, τ) => fOut τ (F ds t)
def ucK (F : FF T) (rs : List Res) : EF T := fun s => ucO F s.2 (giveAll s.1 rs)
theorem q_ucall {F : FF T} {g : AF T} {s : Sg T} : ucallF F g s = abnd (ucK F) (g s) := by
  unfold ucallF abnd ucK ucO fOut
  rcases g s with _ | ⟨_ | _, _⟩ <;> rfl
theorem q_ucK {F : FF T} {rs : List Res} {s : Sg T} : ucK F rs s = ucO F s.2 (giveAll s.1 rs) := (rfl)
theorem q_ucO {F : FF T} {t : T} {ds : List D} {τ : List Sl} : ucO F t (some (ds, τ)) = fOut τ (F ds t) := (rfl)
theorem q_fOut {τ : List Sl} {d : D} {fr : Bool} {t : T} : fOut τ (some (.ok d fr, t)) = some (.ok (resOf (d, fr)), (τ, t)) := (rfl)
/-! ### statements -/
def sqO (g : SF T) : Option (SOut × Sg T) → Option (SOut × Sg T)
  | some (.nx, s1) => g s1
  | r => r
theorem q_seq {f g : SF T} {s : Sg T} : seqF f g s = sqO g (f s) := (rfl)
theorem q_sqO_nx {g : SF T} {s : Sg T} : sqO g (some (.nx, s)) = g s := (rfl)
theorem q_sqO_rt {g : SF T} {s : Sg T} {r : Res} : sqO g (some (.rt r, s)) = some (.rt r, s) := (rfl)
theorem q_sqO_bk {g : SF T} {s : Sg T} : sqO g (some (.bk, s)) = some (.bk, s) := (rfl)
theorem q_sqO_ct {g : SF T} {s : Sg T} : sqO g (some (.ct, s)) = some (.ct, s) := (rfl)
theorem q_sqO_ex {g : SF T} {s : Sg T} {c : Str} {fs : List (Str × D)} : sqO g (some (.ex c fs, s)) = some (.ex c fs, s) := (rfl)
theorem q_nx {s : Sg T} : nxF s = some (.nx, s) := (rfl)
theorem q_bk {s : Sg T} : bkF s = some (.bk, s) := (rfl)
theorem q_ct {s : Sg T} : ctF s = some (.ct, s) := (rfl)
def sbnd (k : Res → SF T) : Option (Out × Sg T) → Option (SOut × Sg T)
  | none => none
  | some (.ex c fs, s1) => some (.ex c fs, s1)
  | some (.ok r, s1) => k r s1
theorem q_sbnd {k : Res → SF T} {r : Res} {s : Sg T} : sbnd k (some (.ok r, s)) = k r s := (rfl)
def drK (r : Res) : SF T := fun s => some (.nx, s)
theorem q_drop {f : EF T} {s : Sg T} : dropF f s = sbnd drK (f s) := (rfl)
theorem q_drK {r : Res} {s : Sg T} : drK r s = some (.nx, s) := (rfl)
def rtS (i : Nat) (s : Sg T) : Option Sl → Option (SOut × Sg T)
  | some (.v d) => some (.rt (.d d), s)
  | some (.o d) => some (.rt (.f d), (s.1.set i .no, s.2))
  | _ => none
def rtK (r : Res) : SF T := fun s => match r with
  | .s i => rtS i s s.1[i]?
  | r => some (.rt r, s)
theorem q_ret {f : EF T} {s : Sg T} : retF f s = sbnd rtK (f s) := by
  unfold retF sbind sbnd rtK rtS
  rcases f s with _ | ⟨(_ | _ | _) | _, _⟩ <;> rfl
theorem q_rtK_d {d : D} {s : Sg T} : rtK (.d d) s = some (.rt (.d d), s) := (rfl)
theorem q_rtK_f {d : D} {s : Sg T} : rtK (.f d) s = some (.rt (.f d), s) := (rfl)
theorem q_rtK_s {i : Nat} {s : Sg T} : rtK (.s i) s = rtS i s s.1[i]? := (rfl)
theorem q_rtS_v {i : Nat} {s : Sg T} {d : D} : rtS i s (some (.v d)) = some (.rt (.d d), s) := (rfl)
theorem q_rtS_o {i : Nat} {s : Sg T} {d : D} : rtS i s (some (.o d)) = some (.rt (.f d), (s.1.set i .no, s.2)) := (rfl)
theorem q_retN {s : Sg T} : retNF s = some (.rt (.d .non), s) := (rfl)
def ifB (g h : SF T) (s : Sg T) : Option D → Option (SOut × Sg T)
  | some (.bl true) => g s
  | some (.bl false) => h s
  | _ => none
def ifK (g h : SF T) (r : Res) : SF T := fun s => ifB g h s (peek s.1 (hold r))
theorem q_if {f : EF T} {g h : SF T} {s : Sg T} : ifF f g h s = sbnd (ifK g h) (f s) := (rfl)
theorem q_ifK {g h : SF T} {r : Res} {s : Sg T} : ifK g h r s = ifB g h s (peek s.1 (hold r)) := (rfl)
theorem q_ifB_t {g h : SF T} {s : Sg T} : ifB g h s (some (.bl true)) = g s := (rfl)
theorem q_ifB_f {g h : SF T} {s : Sg T} : ifB g h s (some (.bl false)) = h s := (rfl)
def stN (t : T) : Option (List Sl) → Option (SOut × Sg T)
  | none => none
  | some τ => some (.nx, (τ, t))
theorem q_stN {t : T} {τ : List Sl} : stN t (some τ) = some (.nx, (τ, t)) := (rfl)
def stK (i : Nat) (r : Res) : SF T := fun s => stN s.2 (storeAt i s.1 r)
theorem q_set {i : Nat} {f : EF T} {s : Sg T} : setF i f s = sbnd (stK i) (f s) := (rfl)
theorem q_stK {i : Nat} {r : Res} {s : Sg T} : stK i r s = stN s.2 (storeAt i s.1 r) := (rfl)
def stS (i j : Nat) (τ : List Sl) : Option Sl → Option (List Sl)
  | some (.v d) => some (τ.set i (.v d))
  | some (.o d) => some ((τ.set j (.v d)).set i (.v d))
  | _ => none
theorem q_store_d {i : Nat} {τ : List Sl} {d : D} : storeAt i τ (.d d) = some (τ.set i (.v d)) := (rfl)
theorem q_store_f {i : Nat} {τ : List Sl} {d : D} : storeAt i τ (.f d) = some (τ.set i (.o d)) := (rfl)
theorem q_store_s {i j : Nat} {τ : List Sl} : storeAt i τ (.s j) = stS i j τ τ[j]? := by
  show (match give τ (.s j) with
    | none => none
    | some (d, τ1) => some (τ1.set i (.v d))) = _
  rw [q_give_s]
  unfold gvS stS
  rcases τ[j]? with _ | (_ | _ | _) <;> rfl
theorem q_stS_v {i j : Nat} {τ : List Sl} {d : D} : stS i j τ (some (.v d)) = some (τ.set i (.v d)) := (rfl)
theorem q_stS_o {i j : Nat} {τ : List Sl} {d : D} : stS i j τ (some (.o d)) = some ((τ.set j (.v d)).set i (.v d)) := (rfl)
def asO (g : GF) (t : T) : Option (D × List Sl) → Option (SOut × Sg T)
  | none => none
  | some (d, τ) => stN t (g d τ)
def asK (g : GF) (r : Res) : SF T := fun s => asO g s.2 (give s.1 r)
theorem q_asg {g : GF} {f : EF T} {s : Sg T} : asgF g f s = sbnd (asK g) (f s) := by
  unfold asgF sbind sbnd asK asO stN
  rcases f s with _ | ⟨_ | _, _⟩ <;> rfl
theorem q_asK {g : GF} {r : Res} {s : Sg T} : asK g r s = asO g s.2 (give s.1 r) := (rfl)
theorem q_asO {g : GF} {t : T} {d : D} {τ : List Sl} : asO g t (some (d, τ)) = stN t (g d τ) := (rfl)
def paN (i : Nat) (d : D) (t : T) : Option (List Sl) → Option (SOut × Sg T)
  | none => none
  | some τ => some (.nx, (τ.set i (.v d), t))
def paK2 (i j : Nat) (d : D) (r : Res) : SF T := fun s => paN i d s.2 (storeAt j s.1 r)
def paO (i j : Nat) (g : EF T) (t : T) : Option (D × List Sl) → Option (SOut × Sg T)
  | none => none
  | some (d, τ) => sbnd (paK2 i j d) (g (τ, t))
def paK (i j : Nat) (g : EF T) (r : Res) : SF T := fun s => paO i j g s.2 (give s.1 r)
theorem q_par {i j : Nat} {f g : EF T} {s : Sg T} : parF i j f g s = sbnd (paK i j g) (f s) := by
  unfold parF sbnd paK paO paK2 paN sbind sbnd
  rcases f s with _ | ⟨_ | _, _⟩ <;> rfl
theorem q_paK {i j : Nat} {g : EF T} {r : Res} {s : Sg T} : paK i j g r s = paO i j g s.2 (give s.1 r) := (rfl)
theorem q_paO {i j : Nat} {g : EF T} {t : T} {d : D} {τ : List Sl} : paO i j g t (some (d, τ)) = sbnd (paK2 i j d) (g (τ, t)) := (rfl)
theorem q_paK2 {i j : Nat} {d : D} {r : Res} {s : Sg T} : paK2 i j d r s = paN i d s.2 (storeAt j s.1 r) := (rfl)
theorem q_paN {i : Nat} {d : D} {t : T} {τ : List Sl} : paN i d t (some τ) = some (.nx, (τ.set i (.v d), t)) := (rfl)
def pnN (j : Nat) (t : T) : Option (List Sl) → Option (SOut × Sg T)
  | none => none
  | some τ => some (.nx, (τ.set j (.o (.lst [])), t))
def pnK (i j : Nat) (r : Res) : SF T := fun s => pnN j s.2 (storeAt i s.1 r)
theorem q_parN {i j : Nat} {f : EF T} {s : Sg T} : parNF i j f s = sbnd (pnK i j) (f s) := (rfl)
theorem q_pnK {i j : Nat} {r : Res} {s : Sg T} : pnK i j r s = pnN j s.2 (storeAt i s.1 r) := (rfl)
theorem q_pnN {j : Nat} {t : T} {τ : List Sl} : pnN j t (some τ) = some (.nx, (τ.set j (.o (.lst [])), t)) := (rfl)
/-! ### own lists changed -/
def muN (i : Nat) (t : T) : Option (List D × D) → Option (Out × Sg T) := fun _ => none
def muX (i : Nat) (op : List D → List D → Option (List D × D)) (ds : List D) (τ : List Sl) (t : T) : Option Sl → Option (Out × Sg T)
  | some (.o (.lst xs)) => (op xs ds).map fun z => (.ok (.d z.2), (τ.set i (.o (.lst z.1)), t))
  | _ => none
def muO (i : Nat) (op : List D → List D → Option (List D × D)) (t : T) : Option (List D × List Sl) → Option (Out × Sg T)
  | none => none
  | some (ds, τ) => muX i op ds τ t τ[i]?
def muK (i : Nat) (op : List D → List D → Option (List D × D)) (rs : List Res) : EF T := fun s => muO i op s.2 (giveAll s.1 rs)
def muA (i : Nat) (op : List D → List D → Option (List D × D)) (g : AF T) (s : Sg T) : Option Sl → Option (Out × Sg T)
  | some (.o (.lst _)) => abnd (muK i op) (g s)
  | _ => none
theorem q_mut {i : Nat} {op : List D → List D → Option (List D × D)} {g : AF T} {s : Sg T} : mutF i op g s = muA i op g s s.1[i]? := by
  unfold mutF muA
  generalize s.1[i]? = z
  rcases z with _ | (_ | _ | d) <;> try rfl
  cases d <;> try rfl
  all_goals
    unfold abnd muK muO muX
    rcases g s with _ | ⟨rs | _, s1⟩ <;> try rfl
  all_goals
    cases e : giveAll s1.1 rs with
    | none => simp only [e]
    | some w =>
      simp only [e]
      generalize w.2[i]? = y
      rcases y with _ | (_ | _ | d2) <;> try rfl
      cases d2 <;> try rfl
      all_goals
        rename_i xs
        dsimp only
        cases op xs w.1 <;> rfl
theorem q_muA {i : Nat} {op : List D → List D → Option (List D × D)} {g : AF T} {s : Sg T} {xs : List D} : muA i op g s (some (.o (.lst xs))) = abnd (muK i op) (g s) := (rfl)
theorem q_muK {i : Nat} {op : List D → List D → Option (List D × D)} {rs : List Res} {s : Sg T} : muK i op rs s = muO i op s.2 (giveAll s.1 rs) := (rfl)
theorem q_muO {i : Nat} {op : List D → List D → Option (List D × D)} {t : T} {ds : List D} {τ : List Sl} : muO i op t (some (ds, τ)) = muX i op ds τ t τ[i]? := (rfl)
theorem q_muX {i : Nat} {op : List D → List D → Option (List D × D)} {ds : List D} {τ : List Sl} {t : T} {xs : List D} : muX i op ds τ t (some (.o (.lst xs))) = (op xs ds).map fun z => (.ok (.d z.2), (τ.set i (.o (.lst z.1)), t)) := (rfl)
/-! ### items set, +=, slices -/
def putJ (i : Nat) (d : D) (xs : List D) (τ : List Sl) : Option Nat → Option (List Sl)
  | none => none
  | some j => some (τ.set i (.o (.lst (xs.set j d))))
def putS (i : Nat) (d : D) (n : Int) (τ : List Sl) : Option Sl → Option (List Sl)
  | some (.o (.lst xs)) => putJ i d xs τ (ixN xs.length n)
  | _ => none
theorem q_putAt {i : Nat} {τ : List Sl} {n : Int} {d : D} : putAt i τ (.int n) d = putS i d n τ τ[i]? := by
  unfold putAt putS putJ
  rcases τ[i]? with _ | (_ | _ | (_ | _ | _ | _ | _ | _ | _ | _ | _ | _)) <;> rfl
theorem q_putS {i : Nat} {d : D} {n : Int} {τ : List Sl} {xs : List D} : putS i d n τ (some (.o (.lst xs))) = putJ i d xs τ (ixN xs.length n) := (rfl)
theorem q_putJ {i : Nat} {d : D} {xs : List D} {τ : List Sl} {j : Nat} : putJ i d xs τ (some j) = some (τ.set i (.o (.lst (xs.set j d)))) := (rfl)
def siP (i : Nat) (d : D) (s : Sg T) : Option D → Option (SOut × Sg T)
  | none => none
  | some k => stN s.2 (putAt i s.1 k d)
def siK2 (i : Nat) (d : D) (rk : Res) : SF T := fun s => siP i d s (peek s.1 (hold rk))
def siG (i : Nat) (fk : EF T) (d : D) (s : Sg T) : Option Sl → Option (SOut × Sg T)
  | some (.o (.lst _)) => sbnd (siK2 i d) (fk s)
  | _ => none
def siO (i : Nat) (fk : EF T) (t : T) : Option (D × List Sl) → Option (SOut × Sg T)
  | none => none
  | some (d, τ) => siG i fk d (τ, t) τ[i]?
def siK (i : Nat) (fk : EF T) (r : Res) : SF T := fun s => siO i fk s.2 (give s.1 r)
theorem q_setIx {i : Nat} {fk fe : EF T} {s : Sg T} : setIxF i fk fe s = sbnd (siK i fk) (fe s) := by
  unfold setIxF sbind sbnd siK siO siG siK2 siP stN
  rcases fe s with _ | ⟨r | _, s1⟩
  · rfl
  · simp only
    cases give s1.1 r with
    | none => rfl
    | some z =>
      simp only
      rcases z.2[i]? with _ | (_ | _ | (_ | _ | _ | _ | _ | _ | _ | _ | _ | _)) <;> try rfl
  · rfl
theorem q_siK {i : Nat} {fk : EF T} {r : Res} {s : Sg T} : siK i fk r s = siO i fk s.2 (give s.1 r) := (rfl)
theorem q_siO {i : Nat} {fk : EF T} {t : T} {d : D} {τ : List Sl} : siO i fk t (some (d, τ)) = siG i fk d (τ, t) τ[i]? := (rfl)
theorem q_siG {i : Nat} {fk : EF T} {d : D} {s : Sg T} {xs : List D} : siG i fk d s (some (.o (.lst xs))) = sbnd (siK2 i d) (fk s) := (rfl)
theorem q_siK2 {i : Nat} {d : D} {rk : Res} {s : Sg T} : siK2 i d rk s = siP i d s (peek s.1 (hold rk)) := (rfl)
theorem q_siP {i : Nat} {d k : D} {s : Sg T} : siP i d s (some k) = stN s.2 (putAt i s.1 k d) := (rfl)
def agO (i : Nat) (s : Sg T) : Option (D × Bool) → Option (SOut × Sg T)
  | some (z, false) => some (.nx, (s.1.set i (.v z), s.2))
  | _ => none
def agK (i : Nat) (op : D → D → Option (D × Bool)) (x : D) (r : Res) : SF T := fun s => agO i s (op1 (op x) (peek s.1 (hold r)))
def agS (i : Nat) (op : D → D → Option (D × Bool)) (f : EF T) (s : Sg T) : Option Sl → Option (SOut × Sg T)
  | some (.v x) => sbnd (agK i op x) (f s)
  | _ => none
theorem q_aug {i : Nat} {op : D → D → Option (D × Bool)} {f : EF T} {s : Sg T} : augF i op f s = agS i op f s s.1[i]? := by
  unfold augF agS
  rcases s.1[i]? with _ | (_ | x | _) <;> try rfl
  simp only [sbind, sbnd, agK, agO, op1]
  rcases f s with _ | ⟨r | _, s1⟩
  · rfl
  · simp only
    cases peek s1.1 (hold r) with
    | none => rfl
    | some y => first | rfl | (simp only; rcases op x y with _ | ⟨_, _ | _⟩ <;> rfl)
  · rfl
theorem q_agS {i : Nat} {op : D → D → Option (D × Bool)} {f : EF T} {s : Sg T} {x : D} : agS i op f s (some (.v x)) = sbnd (agK i op x) (f s) := (rfl)
theorem q_agK {i : Nat} {op : D → D → Option (D × Bool)} {x : D} {r : Res} {s : Sg T} : agK i op x r s = agO i s (op1 (op x) (peek s.1 (hold r))) := (rfl)
theorem q_agO {i : Nat} {s : Sg T} {z : D} : agO i s (some (z, false)) = some (.nx, (s.1.set i (.v z), s.2)) := (rfl)
def ptI (k : Option Int → EF T) (s : Sg T) : Option (Option Int) → Option (Out × Sg T)
  | none => none
  | some i => k i s
def ptD (b : Bool) : Option D → Option (Option Int)
  | none => none
  | some d => partB b d
def ptK (b : Bool) (k : Option Int → EF T) (r : Res) : EF T := fun s => ptI k s (ptD b (peek s.1 r))
def slP (ra : Res) (lo hi : Option Int) : EF T := fun s => dnO s (op1 (fun x => sliceD x lo hi) (peek s.1 (hold ra)))
def slH (bh : Bool) (h : EF T) (ra : Res) (lo : Option Int) : EF T := fun s => bnd (ptK bh (slP ra lo)) (h s)
def slL (bl bh : Bool) (g h : EF T) (ra : Res) : EF T := fun s => bnd (ptK bl (slH bh h ra)) (g s)
theorem part_eq {b : Bool} {g : EF T} {k k' : Option Int → EF T} (e : k = k') {s : Sg T} : partF b g k s = bnd (ptK b k') (g s) := by
  subst e
  unfold partF bindF bnd ptK ptD ptI
  rcases g s with _ | ⟨r | _, s1⟩
  · rfl
  · simp only
    cases peek s1.1 r with
    | none => rfl
    | some d => first | rfl | (simp only; cases partB b d <;> rfl)
  · rfl
theorem q_sl {bl bh : Bool} {f g h : EF T} {s : Sg T} : slF bl bh f g h s = bnd (slL bl bh g h) (f s) := by
  unfold slF bindF bnd
  rcases f s with _ | ⟨r | _, s1⟩
  · rfl
  · simp only
    refine part_eq (funext fun lo => funext fun s2 => ?_)
    refine part_eq (funext fun hi => funext fun s3 => ?_)
    unfold doneF slP dnO op1
    simp only
    cases peek s3.1 (hold r) <;> rfl
  · rfl
theorem q_slL {bl bh : Bool} {g h : EF T} {ra : Res} {s : Sg T} : slL bl bh g h ra s = bnd (ptK bl (slH bh h ra)) (g s) := (rfl)
theorem q_slH {bh : Bool} {h : EF T} {ra : Res} {lo : Option Int} {s : Sg T} : slH bh h ra lo s = bnd (ptK bh (slP ra lo)) (h s) := (rfl)
theorem q_slP {ra : Res} {lo hi : Option Int} {s : Sg T} : slP ra lo hi s = dnO s (op1 (fun x => sliceD x lo hi) (peek s.1 (hold ra))) := (rfl)
theorem q_ptK {b : Bool} {k : Option Int → EF T} {r : Res} {s : Sg T} : ptK b k r s = ptI k s (ptD b (peek s.1 r)) := (rfl)
theorem q_ptI {k : Option Int → EF T} {s : Sg T} {i : Option Int} : ptI k s (some i) = k i s := (rfl)
theorem q_ptD_n : ptD false (some .non) = some none := (rfl)
theorem q_ptD_i {i : Int} : ptD true (some (.int i)) = some (some i) := (rfl)
theorem q_slice_l {ds : List D} {lo hi : Option Int} : sliceD (.lst ds) lo hi = some (.lst (cutL ds lo hi), true) := (rfl)
theorem q_slice_t {ds : List D} {lo hi : Option Int} : sliceD (.tup ds) lo hi = some (.tup (cutL ds lo hi), false) := (rfl)
theorem q_rev {f : EF T} {s : Sg T} : revF f s = bnd (unK revD) (f s) := q_un
theorem q_rev_l {ds : List D} : revD (.lst ds) = some (.lst ds.reverse, true) := (rfl)
theorem q_rev_t {ds : List D} : revD (.tup ds) = some (.tup ds.reverse, false) := (rfl)
/-! ### loops -/
def frO (g : GF) (b : SF T) : Option (OutI × Sg T) → Option (SOut × Sg T)
  | none => none
  | some (.ex c fs, s1) => some (.ex c fs, s1)
  | some (.ok ds, s1) => forL g b ds s1
theorem q_for {it : IF T} {g : GF} {b : SF T} {s : Sg T} : forF it g b s = frO g b (it s) := by
  unfold forF frO
  rcases it s with _ | ⟨_ | _, _⟩ <;> rfl
theorem q_frO {g : GF} {b : SF T} {ds : List D} {s : Sg T} : frO g b (some (.ok ds, s)) = forL g b ds s := (rfl)
def itO (t : T) : Option (List D × List Sl) → Option (OutI × Sg T)
  | none => none
  | some (ds, τ) => some (.ok ds, (τ, t))
def itA (τ : List Sl) : Option (List D) → Option (List D × List Sl)
  | none => none
  | some ds => some (ds, τ)
def sqA : Option (D × List Sl) → Option (List D × List Sl)
  | none => none
  | some (d, τ) => itA τ (itemsD d)
def opI (op : List D → Option (List D)) : Option (List D × List Sl) → Option (List D × List Sl)
  | none => none
  | some (ds, τ) => itA τ (op ds)
def siB : Option (Out × Sg T) → Option (OutI × Sg T)
  | none => none
  | some (.ex c fs, s1) => some (.ex c fs, s1)
  | some (.ok r, s1) => itO s1.2 (sqA (give s1.1 r))
theorem q_seqI {f : EF T} {s : Sg T} : seqI f s = siB (f s) := by
  unfold seqI siB itO sqA itA
  rcases f s with _ | ⟨r | _, s1⟩
  · rfl
  · simp only
    cases give s1.1 r with
    | none => rfl
    | some z => simp only; cases itemsD z.1 <;> rfl
  · rfl
theorem q_siB {r : Res} {s : Sg T} : siB (some (.ok r, s)) = itO s.2 (sqA (give s.1 r)) := (rfl)
theorem q_sqA {d : D} {τ : List Sl} : sqA (some (d, τ)) = itA τ (itemsD d) := (rfl)
theorem q_itA {ds : List D} {τ : List Sl} : itA τ (some ds) = some (ds, τ) := (rfl)
theorem q_itO {ds : List D} {τ : List Sl} {t : T} : itO t (some (ds, τ)) = some (.ok ds, (τ, t)) := (rfl)
theorem q_items_l {ds : List D} : itemsD (.lst ds) = some ds := (rfl)
theorem q_items_t {ds : List D} : itemsD (.tup ds) = some ds := (rfl)
def ciB (op : List D → Option (List D)) : Option (OutA × Sg T) → Option (OutI × Sg T)
  | none => none
  | some (.ex c fs, s1) => some (.ex c fs, s1)
  | some (.ok rs, s1) => itO s1.2 (opI op (giveAll s1.1 rs))
theorem q_callI {op : List D → Option (List D)} {g : AF T} {s : Sg T} : callI op g s = ciB op (g s) := by
  unfold callI ciB itO opI itA
  rcases g s with _ | ⟨r | _, s1⟩
  · rfl
  · simp only
    cases giveAll s1.1 r with
    | none => rfl
    | some z => simp only; cases op z.1 <;> rfl
  · rfl
theorem q_ciB {op : List D → Option (List D)} {rs : List Res} {s : Sg T} : ciB op (some (.ok rs, s)) = itO s.2 (opI op (giveAll s.1 rs)) := (rfl)
theorem q_opI {op : List D → Option (List D)} {ds : List D} {τ : List Sl} : opI op (some (ds, τ)) = itA τ (op ds) := (rfl)
def lcR (τ : List Sl) : Option (List D × T) → Option (Out × Sg T)
  | none => none
  | some (out, t) => some (.ok (.f (.lst out)), (τ, t))
def lcO (sh vs : List Nat) (g : GF) (c e : EF T) : Option (OutI × Sg T) → Option (Out × Sg T)
  | none => none
  | some (.ex k fs, s1) => some (.ex k fs, s1)
  | some (.ok ds, s1) => if ds.length ≤ LEN then lcR (shareAll sh s1.1) (lcL g c e (hideFrom vs 0 (shareAll sh s1.1)) ds s1.2) else none
theorem q_lc {sh vs : List Nat} {it : IF T} {g : GF} {c e : EF T} {s : Sg T} : lcF sh vs it g c e s = lcO sh vs g c e (it s) := by
  unfold lcF lcO lcR
  rcases it s with _ | ⟨_ | _, _⟩ <;> rfl
theorem q_lcO {sh vs : List Nat} {g : GF} {c e : EF T} {ds : List D} {s : Sg T} : lcO sh vs g c e (some (.ok ds, s)) = if ds.length ≤ LEN then lcR (shareAll sh s.1) (lcL g c e (hideFrom vs 0 (shareAll sh s.1)) ds s.2) else none := (rfl)
theorem q_lcR {τ : List Sl} {out : List D} {t : T} : lcR τ (some (out, t)) = some (.ok (.f (.lst out)), (τ, t)) := (rfl)
def whO (c : EF T) (b : SF T) (n : Nat) : Option (SOut × Sg T) → Option (SOut × Sg T)
  | some (.nx, s1) => whileN c b n s1
  | some (.ct, s1) => whileN c b n s1
  | some (.bk, s1) => some (.nx, s1)
  | r => r
def whL (c : EF T) (b : SF T) (n : Nat) : SF T := fun s => whO c b n (b s)
theorem q_whileN {c : EF T} {b : SF T} {n : Nat} {s : Sg T} : whileN c b (n + 1) s = sbnd (ifK (whL c b n) nxF) (c s) := by
  show ifF c _ nxF s = _
  rw [q_if]
  rfl
theorem q_whL {c : EF T} {b : SF T} {n : Nat} {s : Sg T} : whL c b n s = whO c b n (b s) := (rfl)
theorem q_whO_nx {c : EF T} {b : SF T} {n : Nat} {s : Sg T} : whO c b n (some (.nx, s)) = whileN c b n s := (rfl)
theorem q_whO_ct {c : EF T} {b : SF T} {n : Nat} {s : Sg T} : whO c b n (some (.ct, s)) = whileN c b n s := (rfl)
theorem q_whO_bk {c : EF T} {b : SF T} {n : Nat} {s : Sg T} : whO c b n (some (.bk, s)) = some (.nx, s) := (rfl)
theorem q_whO_rt {c : EF T} {b : SF T} {n : Nat} {s : Sg T} {r : Res} : whO c b n (some (.rt r, s)) = some (.rt r, s) := (rfl)
/-! ### targets -/
theorem q_nameG {i : Nat} {d : D} {τ : List Sl} : nameG i d τ = some (τ.set i (.v d)) := (rfl)
def cgO (h : GFs) (ds : List D) : Option (List Sl) → Option (List Sl)
  | none => none
  | some τ => h ds τ
theorem q_nilG {τ : List Sl} : nilG [] τ = some τ := (rfl)
theorem q_consG {g : GF} {h : GFs} {d : D} {ds : List D} {τ : List Sl} : consG g h (d :: ds) τ = cgO h ds (g d τ) := by
  unfold cgO
  first | (rw [consG]; done) | (rw [consG]; cases g d τ <;> rfl)
theorem q_cgO {h : GFs} {ds : List D} {τ : List Sl} : cgO h ds (some τ) = h ds τ := (rfl)
theorem q_tupG {n : Nat} {h : GFs} {ds : List D} {τ : List Sl} : tupG n h (.tup ds) τ = if ds.length = n then h ds τ else none := (rfl)
theorem q_lstG {n : Nat} {h : GFs} {ds : List D} {τ : List Sl} : lstG n h (.lst ds) τ = if ds.length = n then h ds τ else none := (rfl)
/-! ### defs -/
def outF : Option (SOut × Sg T) → Option (FOut × T)
  | some (.nx, s) => some (.ok .non false, s.2)
  | some (.rt (.d d), s) => some (.ok d false, s.2)
  | some (.rt (.f d), s) => some (.ok d true, s.2)
  | some (.ex c fs, s) => some (.ex c fs, s.2)
  | _ => none
theorem q_run {N n : Nat} {f : SF T} {ds : List D} {t : T} (h : ds.length = n) : runF N n f ds t = outF (f (ds.map Sl.v ++ List.replicate (N - ds.length) .no, t)) := by
  unfold runF outF
  rw [if_pos h]
  rfl
theorem q_out_n {s : Sg T} : outF (some (.nx, s)) = some (.ok .non false, s.2) := (rfl)
theorem q_out_d {s : Sg T} {d : D} : outF (some (.rt (.d d), s)) = some (.ok d false, s.2) := (rfl)
theorem q_out_f {s : Sg T} {d : D} : outF (some (.rt (.f d), s)) = some (.ok d true, s.2) := (rfl)
end
/-! ### isinstance of constants -/
theorem q_is_non_int  : isiD [.non, .ty "int"] = some (.bl false, false) := by simp [isiD, tyN, kinds, isA]
theorem q_is_non_bool  : isiD [.non, .ty "bool"] = some (.bl false, false) := by simp [isiD, tyN, kinds, isA]
theorem q_is_non_str  : isiD [.non, .ty "str"] = some (.bl false, false) := by simp [isiD, tyN, kinds, isA]
theorem q_is_non_list  : isiD [.non, .ty "list"] = some (.bl false, false) := by simp [isiD, tyN, kinds, isA]
theorem q_is_non_tuple  : isiD [.non, .ty "tuple"] = some (.bl false, false) := by simp [isiD, tyN, kinds, isA]
theorem q_is_non_dict  : isiD [.non, .ty "dict"] = some (.bl false, false) := by simp [isiD, tyN, kinds, isA]
theorem q_is_non_tuple_list  : isiD [.non, .tup [.ty "tuple", .ty "list"]] = some (.bl false, false) := by simp [isiD, tyN, kinds, isA, isAny]
theorem q_is_non_list_tuple  : isiD [.non, .tup [.ty "list", .ty "tuple"]] = some (.bl false, false) := by simp [isiD, tyN, kinds, isA, isAny]
theorem q_is_bl_int {x : Bool} : isiD [(.bl x), .ty "int"] = some (.bl true, false) := by simp [isiD, tyN, kinds, isA]
theorem q_is_bl_bool {x : Bool} : isiD [(.bl x), .ty "bool"] = some (.bl true, false) := by simp [isiD, tyN, kinds, isA]
theorem q_is_bl_str {x : Bool} : isiD [(.bl x), .ty "str"] = some (.bl false, false) := by simp [isiD, tyN, kinds, isA]
theorem q_is_bl_list {x : Bool} : isiD [(.bl x), .ty "list"] = some (.bl false, false) := by simp [isiD, tyN, kinds, isA]
theorem q_is_bl_tuple {x : Bool} : isiD [(.bl x), .ty "tuple"] = some (.bl false, false) := by simp [isiD, tyN, kinds, isA]
theorem q_is_bl_dict {x : Bool} : isiD [(.bl x), .ty "dict"] = some (.bl false, false) := by simp [isiD, tyN, kinds, isA]
theorem q_is_bl_tuple_list {x : Bool} : isiD [(.bl x), .tup [.ty "tuple", .ty "list"]] = some (.bl false, false) := by simp [isiD, tyN, kinds, isA, isAny]
theorem q_is_bl_list_tuple {x : Bool} : isiD [(.bl x), .tup [.ty "list", .ty "tuple"]] = some (.bl false, false) := by simp [isiD, tyN, kinds, isA, isAny]
theorem q_is_int_int {x : Int} : isiD [(.int x), .ty "int"] = some (.bl true, false) := by simp [isiD, tyN, kinds, isA]
theorem q_is_int_bool {x : Int} : isiD [(.int x), .ty "bool"] = some (.bl false, false) := by simp [isiD, tyN, kinds, isA]
theorem q_is_int_str {x : Int} : isiD [(.int x), .ty "str"] = some (.bl false, false) := by simp [isiD, tyN, kinds, isA]
theorem q_is_int_list {x : Int} : isiD [(.int x), .ty "list"] = some (.bl false, false) := by simp [isiD, tyN, kinds, isA]
theorem q_is_int_tuple {x : Int} : isiD [(.int x), .ty "tuple"] = some (.bl false, false) := by simp [isiD, tyN, kinds, isA]
theorem q_is_int_dict {x : Int} : isiD [(.int x), .ty "dict"] = some (.bl false, false) := by simp [isiD, tyN, kinds, isA]
theorem q_is_int_tuple_list {x : Int} : isiD [(.int x), .tup [.ty "tuple", .ty "list"]] = some (.bl false, false) := by simp [isiD, tyN, kinds, isA, isAny]
theorem q_is_int_list_tuple {x : Int} : isiD [(.int x), .tup [.ty "list", .ty "tuple"]] = some (.bl false, false) := by simp [isiD, tyN, kinds, isA, isAny]
theorem q_is_str_int {x : Str} : isiD [(.str x), .ty "int"] = some (.bl false, false) := by simp [isiD, tyN, kinds, isA]
theorem q_is_str_bool {x : Str} : isiD [(.str x), .ty "bool"] = some (.bl false, false) := by simp [isiD, tyN, kinds, isA]
theorem q_is_str_str {x : Str} : isiD [(.str x), .ty "str"] = some (.bl true, false) := by simp [isiD, tyN, kinds, isA]
theorem q_is_str_list {x : Str} : isiD [(.str x), .ty "list"] = some (.bl false, false) := by simp [isiD, tyN, kinds, isA]
theorem q_is_str_tuple {x : Str} : isiD [(.str x), .ty "tuple"] = some (.bl false, false) := by simp [isiD, tyN, kinds, isA]
theorem q_is_str_dict {x : Str} : isiD [(.str x), .ty "dict"] = some (.bl false, false) := by simp [isiD, tyN, kinds, isA]
theorem q_is_str_tuple_list {x : Str} : isiD [(.str x), .tup [.ty "tuple", .ty "list"]] = some (.bl false, false) := by simp [isiD, tyN, kinds, isA, isAny]
theorem q_is_str_list_tuple {x : Str} : isiD [(.str x), .tup [.ty "list", .ty "tuple"]] = some (.bl false, false) := by simp [isiD, tyN, kinds, isA, isAny]
theorem q_is_tup_int {x : List D} : isiD [(.tup x), .ty "int"] = some (.bl false, false) := by simp [isiD, tyN, kinds, isA]
theorem q_is_tup_bool {x : List D} : isiD [(.tup x), .ty "bool"] = some (.bl false, false) := by simp [isiD, tyN, kinds, isA]
theorem q_is_tup_str {x : List D} : isiD [(.tup x), .ty "str"] = some (.bl false, false) := by simp [isiD, tyN, kinds, isA]
theorem q_is_tup_list {x : List D} : isiD [(.tup x), .ty "list"] = some (.bl false, false) := by simp [isiD, tyN, kinds, isA]
theorem q_is_tup_tuple {x : List D} : isiD [(.tup x), .ty "tuple"] = some (.bl true, false) := by simp [isiD, tyN, kinds, isA]
theorem q_is_tup_dict {x : List D} : isiD [(.tup x), .ty "dict"] = some (.bl false, false) := by simp [isiD, tyN, kinds, isA]
theorem q_is_tup_tuple_list {x : List D} : isiD [(.tup x), .tup [.ty "tuple", .ty "list"]] = some (.bl true, false) := by simp [isiD, tyN, kinds, isA, isAny]
theorem q_is_tup_list_tuple {x : List D} : isiD [(.tup x), .tup [.ty "list", .ty "tuple"]] = some (.bl true, false) := by simp [isiD, tyN, kinds, isA, isAny]
theorem q_is_lst_int {x : List D} : isiD [(.lst x), .ty "int"] = some (.bl false, false) := by simp [isiD, tyN, kinds, isA]
theorem q_is_lst_bool {x : List D} : isiD [(.lst x), .ty "bool"] = some (.bl false, false) := by simp [isiD, tyN, kinds, isA]
theorem q_is_lst_str {x : List D} : isiD [(.lst x), .ty "str"] = some (.bl false, false) := by simp [isiD, tyN, kinds, isA]
theorem q_is_lst_list {x : List D} : isiD [(.lst x), .ty "list"] = some (.bl true, false) := by simp [isiD, tyN, kinds, isA]
theorem q_is_lst_tuple {x : List D} : isiD [(.lst x), .ty "tuple"] = some (.bl false, false) := by simp [isiD, tyN, kinds, isA]
theorem q_is_lst_dict {x : List D} : isiD [(.lst x), .ty "dict"] = some (.bl false, false) := by simp [isiD, tyN, kinds, isA]
theorem q_is_lst_tuple_list {x : List D} : isiD [(.lst x), .tup [.ty "tuple", .ty "list"]] = some (.bl true, false) := by simp [isiD, tyN, kinds, isA, isAny]
theorem q_is_lst_list_tuple {x : List D} : isiD [(.lst x), .tup [.ty "list", .ty "tuple"]] = some (.bl true, false) := by simp [isiD, tyN, kinds, isA, isAny]
theorem q_is_dct_int {x : List (Key × D)} : isiD [(.dct x), .ty "int"] = some (.bl false, false) := by simp [isiD, tyN, kinds, isA]
theorem q_is_dct_bool {x : List (Key × D)} : isiD [(.dct x), .ty "bool"] = some (.bl false, false) := by simp [isiD, tyN, kinds, isA]
theorem q_is_dct_str {x : List (Key × D)} : isiD [(.dct x), .ty "str"] = some (.bl false, false) := by simp [isiD, tyN, kinds, isA]
theorem q_is_dct_list {x : List (Key × D)} : isiD [(.dct x), .ty "list"] = some (.bl false, false) := by simp [isiD, tyN, kinds, isA]
theorem q_is_dct_tuple {x : List (Key × D)} : isiD [(.dct x), .ty "tuple"] = some (.bl false, false) := by simp [isiD, tyN, kinds, isA]
theorem q_is_dct_dict {x : List (Key × D)} : isiD [(.dct x), .ty "dict"] = some (.bl true, false) := by simp [isiD, tyN, kinds, isA]
theorem q_is_dct_tuple_list {x : List (Key × D)} : isiD [(.dct x), .tup [.ty "tuple", .ty "list"]] = some (.bl false, false) := by simp [isiD, tyN, kinds, isA, isAny]
theorem q_is_dct_list_tuple {x : List (Key × D)} : isiD [(.dct x), .tup [.ty "list", .ty "tuple"]] = some (.bl false, false) := by simp [isiD, tyN, kinds, isA, isAny]
def fdA :=
  And.intro (@q_hold_d) <| And.intro (@q_hold_f) <| And.intro (@q_hold_s) <| And.intro (@q_peek_d) <| And.intro (@q_peek_f) <| And.intro (@q_peek_s) <| And.intro (@q_pkS_v) <| And.intro (@q_pkS_o) <| And.intro (@q_give_d) <| And.intro (@q_give_f) <| And.intro (@q_give_s) <| And.intro (@q_gvS_v) <| And.intro (@q_gvS_o) <| And.intro (@q_giveAll_n) <| And.intro (@q_giveAll_c) <| And.intro (@q_gvA) <| And.intro (@q_gvB) <| And.intro (@q_peekAll_n) <| And.intro (@q_peekAll_c) <| And.intro (@q_pkB) <| And.intro (@q_resOf_t) <| And.intro (@q_resOf_f) <| And.intro (@q_var) <| And.intro (@q_varK_v) <| And.intro (@q_varK_o) <| And.intro (@q_con) <| And.intro (@q_bnd) <| And.intro (@q_dnO) <| And.intro (@q_op2) <| And.intro (@q_op1) <| And.intro (@q_bin) <| And.intro (@q_binK) <| And.intro (@q_binK2) <| And.intro (@q_un) <| And.intro (@q_unK) <| And.intro (@q_branch) <| And.intro (@q_brK) <| And.intro (@q_brB_t) <| And.intro (@q_brB_f) <| And.intro (@q_and) <| And.intro (@q_or) <| And.intro (@q_not) <| And.intro (@q_nilA) <| And.intro (@q_consA) <| And.intro (@q_cnsK) <| And.intro (@q_cnsA) <| And.intro (@q_abnd) <| And.intro (@q_disp) <| And.intro (@q_dspK) <| And.intro (@q_dspO) <| And.intro (@q_tup) <| And.intro (@q_lst) <| And.intro (@q_opA) <| And.intro (@q_call) <| And.intro (@q_clK) <| And.intro (@q_ucall) <| And.intro (@q_ucK) <| And.intro (@q_ucO) <| And.intro (@q_fOut) <| And.intro (@q_seq) <| And.intro (@q_sqO_nx) <| And.intro (@q_sqO_rt) <| And.intro (@q_sqO_bk) <| And.intro (@q_sqO_ct) <| And.intro (@q_sqO_ex) <| And.intro (@q_nx) <| And.intro (@q_bk) <| And.intro (@q_ct) <| And.intro (@q_sbnd) <| And.intro (@q_drop) <| And.intro (@q_drK) <| And.intro (@q_ret) <| And.intro (@q_rtK_d) <| And.intro (@q_rtK_f) <| And.intro (@q_rtK_s) <| And.intro (@q_rtS_v) <| And.intro (@q_rtS_o) <| And.intro (@q_retN) <| And.intro (@q_if) <| And.intro (@q_ifK) <| And.intro (@q_ifB_t) <| And.intro (@q_ifB_f) <| And.intro (@q_stN) <| And.intro (@q_set) <| And.intro (@q_stK) <| And.intro (@q_store_d) <| And.intro (@q_store_f) <| And.intro (@q_store_s) <| And.intro (@q_stS_v) <| And.intro (@q_stS_o) <| And.intro (@q_asg) <| And.intro (@q_asK) <| And.intro (@q_asO) <| And.intro (@q_par) <| And.intro (@q_paK) <| And.intro (@q_paO) <| And.intro (@q_paK2) <| And.intro (@q_paN) <| And.intro (@q_parN) <| And.intro (@q_pnK) <| And.intro (@q_pnN) <| And.intro (@q_mut) <| And.intro (@q_muA) <| And.intro (@q_muK) <| And.intro (@q_muO) <| And.intro (@q_muX) <| And.intro (@q_for) <| And.intro (@q_frO) <| And.intro (@q_seqI) <| And.intro (@q_siB) <| And.intro (@q_sqA) <| And.intro (@q_itA) <| And.intro (@q_itO) <| And.intro (@q_items_l) <| And.intro (@q_items_t) <| And.intro (@q_callI) <| And.intro (@q_ciB) <| And.intro (@q_opI) <| And.intro (@q_lc) <| And.intro (@q_lcO) <| And.intro (@q_lcR) <| And.intro (@q_nameG) <| And.intro (@q_nilG) <| And.intro (@q_consG) <| And.intro (@q_cgO) <| And.intro (@q_tupG) <| And.intro (@q_lstG) <| And.intro (@q_run) <| And.intro (@q_out_n) <| And.intro (@q_out_d) <| And.intro (@q_out_f) <| And.intro (@q_whL) <| And.intro (@q_whO_nx) <| And.intro (@q_whO_ct) <| And.intro (@q_whO_bk) <| And.intro (@q_whO_rt) <| And.intro (@q_putAt) <| And.intro (@q_putS) <| And.intro (@q_putJ) <| And.intro (@q_setIx) <| And.intro (@q_siK) <| And.intro (@q_siO) <| And.intro (@q_siG) <| And.intro (@q_siK2) <| And.intro (@q_siP) <| And.intro (@q_aug) <| And.intro (@q_agS) <| And.intro (@q_agK) <| And.intro (@q_agO) <| And.intro (@q_sl) <| And.intro (@q_slL) <| And.intro (@q_slH) <| And.intro (@q_slP) <| And.intro (@q_ptK) <| And.intro (@q_ptI) <| And.intro (@q_ptD_n) <| And.intro (@q_ptD_i) <| And.intro (@q_slice_l) <| And.intro (@q_slice_t) <| And.intro (@q_rev) <| And.intro (@q_rev_l) <| And.intro (@q_rev_t) <| And.intro (@q_is_non_int) <| And.intro (@q_is_non_bool) <| And.intro (@q_is_non_str) <| And.intro (@q_is_non_list) <| And.intro (@q_is_non_tuple) <| And.intro (@q_is_non_dict) <| And.intro (@q_is_non_tuple_list) <| And.intro (@q_is_non_list_tuple) <| And.intro (@q_is_bl_int) <| And.intro (@q_is_bl_bool) <| And.intro (@q_is_bl_str) <| And.intro (@q_is_bl_list) <| And.intro (@q_is_bl_tuple) <| And.intro (@q_is_bl_dict) <| And.intro (@q_is_bl_tuple_list) <| And.intro (@q_is_bl_list_tuple) <| And.intro (@q_is_int_int) <| And.intro (@q_is_int_bool) <| And.intro (@q_is_int_str) <| And.intro (@q_is_int_list) <| And.intro (@q_is_int_tuple) <| And.intro (@q_is_int_dict) <| And.intro (@q_is_int_tuple_list) <| And.intro (@q_is_int_list_tuple) <| And.intro (@q_is_str_int) <| And.intro (@q_is_str_bool) <| And.intro (@q_is_str_str) <| And.intro (@q_is_str_list) <| And.intro (@q_is_str_tuple) <| And.intro (@q_is_str_dict) <| And.intro (@q_is_str_tuple_list) <| And.intro (@q_is_str_list_tuple) <| And.intro (@q_is_tup_int) <| And.intro (@q_is_tup_bool) <| And.intro (@q_is_tup_str) <| And.intro (@q_is_tup_list) <| And.intro (@q_is_tup_tuple) <| And.intro (@q_is_tup_dict) <| And.intro (@q_is_tup_tuple_list) <| And.intro (@q_is_tup_list_tuple) <| And.intro (@q_is_lst_int) <| And.intro (@q_is_lst_bool) <| And.intro (@q_is_lst_str) <| And.intro (@q_is_lst_list) <| And.intro (@q_is_lst_tuple) <| And.intro (@q_is_lst_dict) <| And.intro (@q_is_lst_tuple_list) <| And.intro (@q_is_lst_list_tuple) <| And.intro (@q_is_dct_int) <| And.intro (@q_is_dct_bool) <| And.intro (@q_is_dct_str) <| And.intro (@q_is_dct_list) <| And.intro (@q_is_dct_tuple) <| And.intro (@q_is_dct_dict) <| And.intro (@q_is_dct_tuple_list) (@q_is_dct_list_tuple)
abbrev tpI (ns : List Int) : D := .tup (ns.map D.int)
abbrev lsI (ns : List Int) : D := .lst (ns.map D.int)
theorem next_eq {t : DS} {m : Int} {n : Nat} (h1 : 0 < m) (h2 : m < 2 ^ 64) (h3 : t.c < 2 ^ 40) : FF_q_next [.hnd n, .int m] t = some (.ok (.int (t.draw m)) false, t.step m) := by
  unfold FF_q_next
  exact if_pos ⟨h1, h2, h3⟩
theorem forL_inv {T : Type} {g : GF} {b : SF T} (I : Nat → Sg T → Prop) : ∀ (ds : List D) (k : Nat) (s : Sg T),
    (∀ i d s, ds[i]? = some d → I (k + i) s → ∃ τ s', g d s.1 = some τ ∧ b (τ, s.2) = some (.nx, s') ∧ I (k + i + 1) s') → I k s → ∃ s', forL g b ds s = some (.nx, s') ∧ I (k + ds.length) s'
  | [], k, s, _, h => ⟨s, rfl, h⟩
  | d :: ds, k, s, st, h => by
    obtain ⟨τ, s1, e1, e2, h1⟩ := st 0 d s rfl h
    obtain ⟨s2, e3, h2⟩ := forL_inv I ds (k + 1) s1 (fun i d' s e hI => by
      have := st (i + 1) d' s e (by rw [show k + (i + 1) = k + 1 + i by omega]; exact hI)
      rwa [show k + (i + 1) + 1 = k + 1 + i + 1 by omega] at this) h1
    refine ⟨s2, ?_, by rw [List.length_cons, show k + (ds.length + 1) = k + 1 + ds.length by omega]; exact h2⟩
    unfold forL
    simp only [e1, e2]
    exact e3
end FD

/-! F23: what the operations give for data of known kinds. -/
namespace FD
open PySem PySem.Spec PyProof.Rows L2
theorem eqv_int (a b : Int) : PyData.eqv (.int a) (.int b) = decide (a = b) := by
  simp only [PyData.eqv]
  by_cases h : a = b <;> simp [h]
theorem eqv_bl (a b : Bool) : PyData.eqv (.bool a) (.bool b) = decide (a = b) := by
  cases a <;> cases b <;> simp [PyData.eqv]
theorem okAll_int (n : Nat) : ∀ ns : List Int, okAll n (ns.map D.int) = true
  | [] => rfl
  | a :: r => by simp [okAll, okD, okAll_int n r]
theorem pys_int : ∀ ns : List Int, pys (ns.map D.int) = ns.map PyData.int
  | [] => rfl
  | a :: r => by simp [pys, py, pys_int r]
theorem eqvAll_int : ∀ a b : List Int, PyData.eqvAll (a.map PyData.int) (b.map PyData.int) = decide (a = b)
  | [], [] => by simp [PyData.eqvAll]
  | [], b :: bs => by simp [PyData.eqvAll]
  | a :: r, [] => by simp [PyData.eqvAll]
  | a :: r, b :: bs => by simp [PyData.eqvAll, eqv_int, eqvAll_int r bs]
theorem v_eq_int {a b : Int} : eqD (.int a) (.int b) = some (.bl (decide (a = b)), false) := by
  simp [eqD, okD, eqB, py, eqv_int]
theorem v_ne_int {a b : Int} : neD (.int a) (.int b) = some (.bl (!decide (a = b)), false) := by
  simp [neD, okD, eqB, py, eqv_int]
theorem v_eq_bl {a b : Bool} : eqD (.bl a) (.bl b) = some (.bl (decide (a = b)), false) := by
  simp [eqD, okD, eqB, py, eqv_bl]
theorem v_ne_bl {a b : Bool} : neD (.bl a) (.bl b) = some (.bl (!decide (a = b)), false) := by
  simp [neD, okD, eqB, py, eqv_bl]
theorem v_eq_str {a b : Str} : eqD (.str a) (.str b) = some (.bl (decide (a = b)), false) := (rfl)
theorem v_ne_str {a b : Str} : neD (.str a) (.str b) = some (.bl (!decide (a = b)), false) := (rfl)
theorem v_eq_tpI {a b : List Int} : eqD (.tup (a.map D.int)) (.tup (b.map D.int)) = some (.bl (decide (a = b)), false) := by
  simp [eqD, okD, eqB, py, okAll_int, pys_int, PyData.eqv, eqvAll_int]
theorem v_ne_tpI {a b : List Int} : neD (.tup (a.map D.int)) (.tup (b.map D.int)) = some (.bl (!decide (a = b)), false) := by
  simp [neD, okD, eqB, py, okAll_int, pys_int, PyData.eqv, eqvAll_int]
theorem v_eq_lsI {a b : List Int} : eqD (.lst (a.map D.int)) (.lst (b.map D.int)) = some (.bl (decide (a = b)), false) := by
  simp [eqD, okD, eqB, py, okAll_int, pys_int, PyData.eqv, eqvAll_int]
theorem v_ne_lsI {a b : List Int} : neD (.lst (a.map D.int)) (.lst (b.map D.int)) = some (.bl (!decide (a = b)), false) := by
  simp [neD, okD, eqB, py, okAll_int, pys_int, PyData.eqv, eqvAll_int]
theorem v_eq_nil {a : List D} (h : okAll 63 a = true) : eqD (.lst a) (.lst []) = some (.bl a.isEmpty, false) := by
  cases a with
  | nil => simp [eqD, okD, okAll, eqB, py, pys, PyData.eqv, PyData.eqvAll]
  | cons x r =>
    have h' : okD 64 (.lst (x :: r)) = true := by unfold okD; exact h
    have h2 : okD 64 (.lst []) = true := by simp [okD, okAll]
    show (if okD 64 (.lst (x :: r)) = true ∧ okD 64 (.lst []) = true then _ else _) = _
    rw [if_pos ⟨h', h2⟩]
    simp [eqB, py, pys, PyData.eqv, PyData.eqvAll]
theorem v_ne_nil {a : List D} (h : okAll 63 a = true) : neD (.lst a) (.lst []) = some (.bl (!a.isEmpty), false) := by
  cases a with
  | nil => simp [neD, okD, okAll, eqB, py, pys, PyData.eqv, PyData.eqvAll]
  | cons x r =>
    have h' : okD 64 (.lst (x :: r)) = true := by unfold okD; exact h
    have h2 : okD 64 (.lst []) = true := by simp [okD, okAll]
    show (if okD 64 (.lst (x :: r)) = true ∧ okD 64 (.lst []) = true then _ else _) = _
    rw [if_pos ⟨h', h2⟩]
    simp [eqB, py, pys, PyData.eqv, PyData.eqvAll]
theorem v_is_bl {a : Bool} : isD (.bl a) .non = some (.bl false, false) := (rfl)
theorem v_is_int {a : Int} : isD (.int a) .non = some (.bl false, false) := (rfl)
theorem v_is_str {a : Str} : isD (.str a) .non = some (.bl false, false) := (rfl)
theorem v_is_tup {a : List D} : isD (.tup a) .non = some (.bl false, false) := (rfl)
theorem v_is_lst {a : List D} : isD (.lst a) .non = some (.bl false, false) := (rfl)
theorem v_is_non : isD .non .non = some (.bl true, false) := (rfl)
theorem v_is_bb {a b : Bool} : isD (.bl a) (.bl b) = some (.bl (decide (a = b)), false) := (rfl)
theorem v_isnt_bl {a : Bool} : isntD (.bl a) .non = some (.bl true, false) := (rfl)
theorem v_isnt_int {a : Int} : isntD (.int a) .non = some (.bl true, false) := (rfl)
theorem v_isnt_str {a : Str} : isntD (.str a) .non = some (.bl true, false) := (rfl)
theorem v_isnt_tup {a : List D} : isntD (.tup a) .non = some (.bl true, false) := (rfl)
theorem v_isnt_lst {a : List D} : isntD (.lst a) .non = some (.bl true, false) := (rfl)
theorem v_isnt_non : isntD .non .non = some (.bl false, false) := (rfl)
theorem v_add_int {a b : Int} : addD (.int a) (.int b) = some (.int (a + b), false) := (rfl)
theorem v_sub_int {a b : Int} : subD (.int a) (.int b) = some (.int (a - b), false) := (rfl)
theorem v_addI {a b : Int} : addI (.int a) (.int b) = some (.int (a + b), false) := (rfl)
theorem v_subI {a b : Int} : subI (.int a) (.int b) = some (.int (a - b), false) := (rfl)
theorem v_lt {a b : Int} : ltD (.int a) (.int b) = some (.bl (decide (a < b)), false) := (rfl)
theorem v_le {a b : Int} : leD (.int a) (.int b) = some (.bl (decide (a ≤ b)), false) := (rfl)
theorem v_gt {a b : Int} : gtD (.int a) (.int b) = some (.bl (decide (b < a)), false) := (rfl)
theorem v_ge {a b : Int} : geD (.int a) (.int b) = some (.bl (decide (b ≤ a)), false) := (rfl)
theorem v_mod {a b : Int} (h : 0 < b) : modD (.int a) (.int b) = some (.int (a % b), false) := if_pos h
theorem v_fdiv {a b : Int} (h : 0 < b) (f : Fair b) : fdivD (.int a) (.int b) = some (.int (a / b), false) := if_pos ⟨h, f⟩
theorem v_len_t {a : List D} : lenD [.tup a] = some (.int a.length, false) := (rfl)
theorem v_len_l {a : List D} : lenD [.lst a] = some (.int a.length, false) := (rfl)
theorem v_sum_t {a : List Int} : sumD [.tup (a.map D.int)] = some (.int a.sum, false) := by
  simp [sumD, intsD_map]
theorem v_sum_l {a : List Int} : sumD [.lst (a.map D.int)] = some (.int a.sum, false) := by
  simp [sumD, intsD_map]
theorem v_tuple_l {a : List D} : tupleD [.lst a] = some (.tup a, false) := (rfl)
theorem v_tuple_t {a : List D} : tupleD [.tup a] = some (.tup a, false) := (rfl)
theorem v_list_l {a : List D} : listD [.lst a] = some (.lst a, true) := (rfl)
theorem v_list_t {a : List D} : listD [.tup a] = some (.lst a, true) := (rfl)
theorem v_int_i {a : Int} : intD [.int a] = some (.int a, false) := (rfl)
theorem v_int_b {a : Bool} : intD [.bl a] = some (.int (if a then 1 else 0), false) := (rfl)
theorem v_sort_t {b : Bool} {a : List Int} : sortBD b [.tup (a.map D.int)] = some (.lst ((sortOf b a).map D.int), true) := by
  simp [sortBD, intsD_map]
theorem v_sort_l {b : Bool} {a : List Int} : sortBD b [.lst (a.map D.int)] = some (.lst ((sortOf b a).map D.int), true) := by
  simp [sortBD, intsD_map]
theorem v_zip_l {a b : List D} : zipD [.lst a, .lst b] = some (pairD a b) := (rfl)
theorem v_zip_t {a b : List D} : zipD [.tup a, .tup b] = some (pairD a b) := (rfl)
theorem v_ix_t {a : List D} {i : Int} {d : D} (e : atI a i = some d) : ixD (.tup a) (.int i) = some (d, false) := by
  simp [ixD, e]
theorem v_ix_l {a : List D} {i : Int} {d : D} (e : atI a i = some d) : ixD (.lst a) (.int i) = some (d, false) := by
  simp [ixD, e]
theorem atI_map {a : List Int} {i : Int} (h0 : 0 ≤ i) (h1 : i < a.length) : atI (a.map D.int) i = some (.int (a[i.toNat]?.getD 0)) := by
  obtain ⟨k, rfl⟩ := Int.eq_ofNat_of_zero_le h0
  have hk : k < a.length := by omega
  have e : (a.map D.int)[k]? = some (D.int a[k]) := by simp [hk]
  rw [atI_nat e]
  simp [hk]
theorem rngL_len (lo hi : Int) : (rngL lo hi).length = (hi - lo).toNat := by
  unfold rngL
  simp
theorem rngL_map (lo hi : Int) : rngL lo hi = ((List.range (hi - lo).toNat).map fun (k : Nat) => lo + (k : Int)).map D.int := by
  unfold rngL
  rw [List.map_map]
  rfl
theorem v_rng1 {j : Int} (h : small j = true) : rng1D [.int j] = some (rngL 0 j) := if_pos h
theorem v_rng2 {i j : Int} (h1 : small i = true) (h2 : small j = true) : rng2D [.int i, .int j] = some (rngL i j) := if_pos ⟨h1, h2⟩
theorem small_of {i : Int} (h : -(2 ^ 60) ≤ i ∧ i ≤ 2 ^ 60) : small i = true := decide_eq_true h
theorem fair_of {i : Int} (h : -(2 ^ 60) ≤ i ∧ i ≤ 2 ^ 60) : Fair i := by
  unfold Fair
  have : i.natAbs ≤ 2 ^ 60 := by omega
  exact Nat.lt_of_le_of_lt this (Nat.pow_lt_pow_right (by decide) (by decide))
theorem ixN_of {n : Nat} {i : Int} (h0 : 0 ≤ i) (h1 : i < n) : ixN n i = some i.toNat := by
  unfold ixN
  rw [if_pos h0, if_pos (by omega)]
theorem set_int {ns : List Int} {k : Nat} {x : Int} : (ns.map D.int).set k (.int x) = (ns.set k x).map D.int := by
  rw [List.map_set]
theorem app_int {ns : List Int} {x : Int} : ns.map D.int ++ [D.int x] = (ns ++ [x]).map D.int := by
  rw [List.map_append]
  rfl
theorem erase_map : ∀ (ns : List Int) (k : Nat), (ns.map D.int).eraseIdx k = (ns.eraseIdx k).map D.int
  | [], _ => rfl
  | a :: r, 0 => rfl
  | a :: r, k + 1 => by
    simp only [List.map_cons, List.eraseIdx_cons_succ, erase_map r k]
theorem v_pop {ns : List Int} {i : Int} (h0 : 0 ≤ i) (h1 : i < ns.length) (h2 : ns.length ≤ 2 ^ 60) : popD (ns.map D.int) [.int i] = some ((ns.eraseIdx i.toNat).map D.int, .int (ns[i.toNat]?.getD 0)) := by
  obtain ⟨k, rfl⟩ := Int.eq_ofNat_of_zero_le h0
  have hk : k < ns.length := by omega
  have e := seqIndex_of (k := k) (n := ns.length) (by omega) (by omega)
  have e2 : (ns.map D.int)[k]? = some (.int ns[k]) := by simp [hk]
  have e3 : seqIndex? (k : Int) (ns.map D.int).length = some k := by rw [List.length_map]; exact e
  show (if small (k : Int) = true then _ else _) = _
  rw [if_pos (small_of (by omega)), e3]
  simp only [e2, Int.toNat_natCast]
  rw [erase_map]
  simp [hk]
theorem v_app {xs : List D} {d : D} (h : xs.length < LEN) : appD xs [d] = some (xs ++ [d], .non) := if_pos h
def fvA :=
  And.intro (@v_eq_int) <| And.intro (@v_ne_int) <| And.intro (@v_eq_bl) <| And.intro (@v_ne_bl) <| And.intro (@v_eq_str) <| And.intro (@v_ne_str) <| And.intro (@v_eq_tpI) <| And.intro (@v_ne_tpI) <| And.intro (@v_eq_lsI) <| And.intro (@v_ne_lsI) <| And.intro (@v_is_bl) <| And.intro (@v_is_int) <| And.intro (@v_is_str) <| And.intro (@v_is_tup) <| And.intro (@v_is_lst) <| And.intro (@v_is_non) <| And.intro (@v_is_bb) <| And.intro (@v_isnt_bl) <| And.intro (@v_isnt_int) <| And.intro (@v_isnt_str) <| And.intro (@v_isnt_tup) <| And.intro (@v_isnt_lst) <| And.intro (@v_isnt_non) <| And.intro (@v_add_int) <| And.intro (@v_sub_int) <| And.intro (@v_addI) <| And.intro (@v_subI) <| And.intro (@v_lt) <| And.intro (@v_le) <| And.intro (@v_gt) <| And.intro (@v_ge) <| And.intro (@v_len_t) <| And.intro (@v_len_l) <| And.intro (@v_sum_t) <| And.intro (@v_sum_l) <| And.intro (@v_tuple_l) <| And.intro (@v_tuple_t) <| And.intro (@v_list_l) <| And.intro (@v_list_t) <| And.intro (@v_int_i) <| And.intro (@v_int_b) <| And.intro (@v_sort_t) <| And.intro (@v_sort_l) <| And.intro (@v_zip_l) <| And.intro (@v_zip_t) <| And.intro (@set_int) <| (@app_int)
end FD

/-! F24: loops and comprehensions over lists of known kind. -/
namespace FD
open PySem PySem.Spec PyProof.Rows L2
section
variable {T : Type}
def flO (g : GF) (b : SF T) (ds : List D) : Option (SOut × Sg T) → Option (SOut × Sg T)
  | none => none
  | some (.nx, s1) => forL g b ds s1
  | some (.ct, s1) => forL g b ds s1
  | some (.bk, s1) => some (.nx, s1)
  | some (.rt r, s1) => some (.rt r, s1)
  | some (.ex c fs, s1) => some (.ex c fs, s1)
def flT (g : GF) (b : SF T) (ds : List D) (t : T) : Option (List Sl) → Option (SOut × Sg T)
  | none => none
  | some τ => flO g b ds (b (τ, t))
theorem q_forL_n {g : GF} {b : SF T} {s : Sg T} : forL g b [] s = some (.nx, s) := (rfl)
theorem q_forL_c {g : GF} {b : SF T} {d : D} {ds : List D} {s : Sg T} : forL g b (d :: ds) s = flT g b ds s.2 (g d s.1) := by
  show (match g d s.1 with
    | none => none
    | some τ => match b (τ, s.2) with
      | none => none
      | some (.nx, s1) => forL g b ds s1
      | some (.ct, s1) => forL g b ds s1
      | some (.bk, s1) => some (.nx, s1)
      | some (.rt r, s1) => some (.rt r, s1)
      | some (.ex c fs, s1) => some (.ex c fs, s1)) = _
  unfold flT flO
  cases g d s.1 with
  | none => rfl
  | some τ => rfl
theorem q_flT {g : GF} {b : SF T} {ds : List D} {t : T} {τ : List Sl} : flT g b ds t (some τ) = flO g b ds (b (τ, t)) := (rfl)
theorem q_flO_nx {g : GF} {b : SF T} {ds : List D} {s : Sg T} : flO g b ds (some (.nx, s)) = forL g b ds s := (rfl)
theorem q_flO_ct {g : GF} {b : SF T} {ds : List D} {s : Sg T} : flO g b ds (some (.ct, s)) = forL g b ds s := (rfl)
theorem q_flO_bk {g : GF} {b : SF T} {ds : List D} {s : Sg T} : flO g b ds (some (.bk, s)) = some (.nx, s) := (rfl)
theorem q_flO_rt {g : GF} {b : SF T} {ds : List D} {s : Sg T} {r : Res} : flO g b ds (some (.rt r, s)) = some (.rt r, s) := (rfl)
/-- a comprehension whose parts leave the state as it is -/
theorem lcL_fm {A : Type} {g : GF} {c e : EF T} {τ0 : List Sl} {t : T} (mk f : A → D) (p : A → Bool) : ∀ (as : List A),
    (∀ a ∈ as, ∃ τ1 rc τ2, g (mk a) τ0 = some τ1 ∧ c (τ1, t) = some (.ok rc, (τ2, t)) ∧ peek τ2 (hold rc) = some (.bl (p a)) ∧ (p a = true → ∃ r τ3 τ4, e (τ2, t) = some (.ok r, (τ3, t)) ∧ give τ3 r = some (f a, τ4))) →
    lcL g c e τ0 (as.map mk) t = some ((as.filter p).map f, t)
  | [], _ => rfl
  | a :: as, h => by
    obtain ⟨τ1, rc, τ2, e1, e2, e3, k⟩ := h a (List.mem_cons_self ..)
    have ih := lcL_fm mk f p as fun b hb => h b (List.mem_cons_of_mem _ hb)
    rw [List.map_cons]
    unfold lcL
    simp only [e1, e2, e3]
    cases hp : p a with
    | false =>
      simp only [ih]
      rw [List.filter_cons_of_neg (by simp [hp])]
    | true =>
      obtain ⟨r, τ3, τ4, e4, e5⟩ := k hp
      simp only [e4, e5, ih]
      rw [List.filter_cons_of_pos hp]
      rfl
/-- a comprehension without a condition, the state walking along -/
theorem lcL_inv {g : GF} {e : EF T} {τ0 : List Sl} (I : Nat → T → Prop) (P : Nat → D → Prop) : ∀ (ds : List D) (k : Nat) (t : T),
    (∀ i d t, ds[i]? = some d → I (k + i) t → ∃ τ1 r τ3 t' v τ4, g d τ0 = some τ1 ∧ e (τ1, t) = some (.ok r, (τ3, t')) ∧ give τ3 r = some (v, τ4) ∧ P (k + i) v ∧ I (k + i + 1) t') → I k t →
    ∃ out t', lcL g yesF e τ0 ds t = some (out, t') ∧ out.length = ds.length ∧ (∀ i v, out[i]? = some v → P (k + i) v) ∧ I (k + ds.length) t'
  | [], k, t, _, h => ⟨[], t, rfl, rfl, fun _ _ e => by simp at e, h⟩
  | d :: ds, k, t, st, h => by
    obtain ⟨τ1, r, τ3, t1, v, τ4, e1, e2, e3, p, h1⟩ := st 0 d t rfl h
    obtain ⟨out, t', e4, l, ps, h2⟩ := lcL_inv I P ds (k + 1) t1 (fun i d' t e hI => by
      have := st (i + 1) d' t e (by rw [show k + (i + 1) = k + 1 + i by omega]; exact hI)
      rwa [show k + (i + 1) + 1 = k + 1 + i + 1 by omega, show k + (i + 1) = k + 1 + i by omega] at this) h1
    refine ⟨v :: out, t', ?_, by simp [l], ?_, by rw [List.length_cons, show k + (ds.length + 1) = k + 1 + ds.length by omega]; exact h2⟩
    · unfold lcL
      have y : (yesF : EF T) (τ1, t) = some (.ok (.d (.bl true)), (τ1, t)) := (rfl)
      simp only [e1, y, peek, hold, e2, e3, e4]
    · intro i w e
      cases i with
      | zero => cases e; exact p
      | succ i => rw [show k + (i + 1) = k + 1 + i by omega]; exact ps i w e
theorem q_share_n {τ : List Sl} : shareAll [] τ = τ := (rfl)
def shO (i : Nat) (τ : List Sl) : Option Sl → List Sl
  | some (.o d) => τ.set i (.v d)
  | _ => τ
theorem q_share_c {i : Nat} {is : List Nat} {τ : List Sl} : shareAll (i :: is) τ = shareAll is (shO i τ τ[i]?) := by
  show shareAll is (match τ[i]? with
    | some (.o d) => τ.set i (.v d)
    | _ => τ) = _
  congr 1
theorem q_shO_v {i : Nat} {τ : List Sl} {d : D} : shO i τ (some (.v d)) = τ := (rfl)
theorem q_shO_o {i : Nat} {τ : List Sl} {d : D} : shO i τ (some (.o d)) = τ.set i (.v d) := (rfl)
theorem q_shO_n {i : Nat} {τ : List Sl} : shO i τ (some .no) = τ := (rfl)
theorem q_hide_n {vs : List Nat} {k : Nat} : hideFrom vs k [] = [] := (rfl)
theorem q_hide_c {vs : List Nat} {k : Nat} {s : Sl} {r : List Sl} : hideFrom vs k (s :: r) = (if k ∈ vs then .no else unown s) :: hideFrom vs (k + 1) r := (rfl)
theorem q_unown_v {d : D} : unown (.v d) = .v d := (rfl)
theorem q_unown_o {d : D} : unown (.o d) = .no := (rfl)
theorem q_unown_n : unown .no = .no := (rfl)
end
def fhA :=
  And.intro (@q_forL_n) <| And.intro (@q_forL_c) <| And.intro (@q_flT) <| And.intro (@q_flO_nx) <| And.intro (@q_flO_ct) <| And.intro (@q_flO_bk) <| And.intro (@q_flO_rt) <| And.intro (@q_share_n) <| And.intro (@q_share_c) <| And.intro (@q_shO_v) <| And.intro (@q_shO_o) <| And.intro (@q_shO_n) <| And.intro (@q_hide_n) <| And.intro (@q_hide_c) <| And.intro (@q_unown_v) <| And.intro (@q_unown_o) (@q_unown_n)
end FD

namespace FD
open PySem PySem.Spec PyProof.Rows L2
/-! ### data that repr can show -/
structure Tame (k n : Nat) (d : PyData) : Prop where
  sh : d.showable = true
  dp : d.depth ≤ k
  lv : d.leavesShort 70 = true
  bk : d.bulk ≤ n
theorem Tame.mono {k n k' n' : Nat} {d : PyData} (h : Tame k n d) (h1 : k ≤ k') (h2 : n ≤ n') : Tame k' n' d := ⟨h.sh, Nat.le_trans h.dp h1, h.lv, Nat.le_trans h.bk h2⟩
theorem Tame.fits {k n : Nat} {d : PyData} (h : Tame k n d) (hk : k ≤ 60) (hn : n ≤ 200000) : d.showable = true ∧ d.depth ≤ 60 ∧ d.shown.length ≤ sizeLine := by
  refine ⟨h.sh, Nat.le_trans h.dp hk, ?_⟩
  have := PyData.shown_le_bulk 70 (by decide) d h.lv
  have := h.bk
  rw [sizeLine_eq]
  omega
theorem log_lt {a : Nat} (h : a < 10 ^ 60) : a.log2 < 1920 := by
  by_cases h0 : a = 0
  · subst h0
    decide
  · have : a.log2 < 200 := (Nat.log2_lt h0).mpr (Nat.lt_of_lt_of_le h (by decide))
    omega
theorem tame_int {i : Int} (h : i.natAbs < 10 ^ 60) : Tame 0 0 (.int i) := by
  refine ⟨?_, ?_, ?_, ?_⟩
  · simp only [PyData.showable, decide_eq_true_eq]
    exact log_lt h
  · simp [PyData.depth]
  · have h1 := int_text_length_le10 (k := 60) (by decide) h
    have h2 : (PyData.shown (.int i)).length ≤ 70 := by
      have e : PyData.shown (.int i) = Str.ofString (toString i) := by simp only [PyData.shown]
      rw [e, PySem.ofString_length]
      omega
    simp only [PyData.leavesShort]
    exact decide_eq_true h2
  · simp [PyData.bulk]
theorem tame_str {x : Str} (h1 : x.cps.size ≤ 20) (h2 : (x.cps.toList.all fun c => decide (c < 16 ^ 8)) = true) : Tame 0 20 (.str x) :=
  ⟨by simp [PyData.showable], by simp [PyData.depth], by simpa only [PyData.leavesShort] using h2, by simpa only [PyData.bulk] using h1⟩
theorem tame_all {k n : Nat} : ∀ {ds : List PyData}, (∀ d ∈ ds, Tame k n d) → PyData.showableAll ds = true ∧ PyData.depthAll ds ≤ k ∧ PyData.leavesShortAll 70 ds = true ∧ PyData.bulkAll ds ≤ (n + 1) * ds.length
  | [], _ => ⟨by simp [PyData.showableAll], by simp [PyData.depthAll], by simp [PyData.leavesShortAll], by simp [PyData.bulkAll]⟩
  | d :: ds, h => by
    have h1 := h d List.mem_cons_self
    obtain ⟨a, b, c, e⟩ := tame_all fun x hx => h x (List.mem_cons_of_mem _ hx)
    have h2 := h1.dp
    have h3 := h1.bk
    refine ⟨by simp [PyData.showableAll, h1.sh, a], ?_, by simp [PyData.leavesShortAll, h1.lv, c], ?_⟩
    · simp only [PyData.depthAll]
      omega
    · simp only [PyData.bulkAll, List.length_cons, Nat.mul_add, Nat.mul_one]
      omega
theorem tame_tup {k n l : Nat} {ds : List PyData} (h : ∀ d ∈ ds, Tame k n d) (hl : ds.length ≤ l) : Tame (k + 1) ((n + 1) * l) (.tuple ds) := by
  obtain ⟨a, b, c, e⟩ := tame_all h
  refine ⟨by simpa only [PyData.showable] using a, by simp only [PyData.depth]; omega, by simpa only [PyData.leavesShort] using c, ?_⟩
  simp only [PyData.bulk]
  exact Nat.le_trans e (Nat.mul_le_mul_left _ hl)
theorem tame_lst {k n l : Nat} {ds : List PyData} (h : ∀ d ∈ ds, Tame k n d) (hl : ds.length ≤ l) : Tame (k + 1) ((n + 1) * l) (.list ds) := by
  obtain ⟨a, b, c, e⟩ := tame_all h
  refine ⟨by simpa only [PyData.showable] using a, by simp only [PyData.depth]; omega, by simpa only [PyData.leavesShort] using c, ?_⟩
  simp only [PyData.bulk]
  exact Nat.le_trans e (Nat.mul_le_mul_left _ hl)
theorem Tame.shown_ok {k n : Nat} {d : PyData} (h : Tame k n d) (hk : k ≤ 60) (hn : n ≤ 200000) : Shown d := h.fits hk hn
theorem pqs_int : ∀ ns : List Int, pqs (ns.map D.int) = some (ns.map PyData.int)
  | [] => by simp [pqs]
  | a :: r => by simp [pqs, pq, pqs_int r]
theorem pqs_tpI : ∀ nss : List (List Int), pqs (nss.map tpI) = some (nss.map fun ns => PyData.tuple (ns.map PyData.int))
  | [] => by simp [pqs]
  | a :: r => by
    have := pqs_tpI r
    simp [pqs, pq, pqs_int, this]
theorem tame_ints {ns : List Int} {l : Nat} (h : ∀ x ∈ ns, x.natAbs < 10 ^ 60) (hl : ns.length ≤ l) : Tame 1 l (.tuple (ns.map PyData.int)) := by
  have := tame_tup (k := 0) (n := 0) (l := l) (ds := ns.map PyData.int) (fun d hd => by
    obtain ⟨x, hx, rfl⟩ := List.mem_map.mp hd
    exact tame_int (h x hx)) (by simpa using hl)
  simpa using this
/-- repr of a list of tuples of ints -/
theorem v_repr_lt {nss : List (List Int)} (h1 : nss.length ≤ 100) (h2 : ∀ ns ∈ nss, ns.length ≤ 100 ∧ ∀ x ∈ ns, x.natAbs < 10 ^ 60) : ∃ s, reprD [.lst (nss.map tpI)] = some (.str s, false) := by
  have t := tame_lst (k := 1) (n := 100) (l := 100) (ds := nss.map fun ns => PyData.tuple (ns.map PyData.int)) (fun d hd => by
    obtain ⟨ns, hx, rfl⟩ := List.mem_map.mp hd
    exact tame_ints (h2 ns hx).2 (h2 ns hx).1) (by simpa using h1)
  have e : pq (.lst (nss.map tpI)) = some (.list (nss.map fun ns => PyData.tuple (ns.map PyData.int))) := by
    have := pqs_tpI nss
    simp [pq, this]
  have s := t.shown_ok (by decide) (by decide)
  refine ⟨(PyData.list (nss.map fun ns => PyData.tuple (ns.map PyData.int))).shown, ?_⟩
  unfold reprD
  simp only [e]
  exact if_pos ⟨rfl, s⟩
/-- behind a loop -/
theorem for_then {T : Type} {g : GF} {b k : SF T} {ds : List D} {s : Sg T} {o : SOut} (I : Nat → Sg T → Prop) (st : ∀ i d s, ds[i]? = some d → I i s → ∃ τ s', g d s.1 = some τ ∧ b (τ, s.2) = some (.nx, s') ∧ I (i + 1) s') (h : I 0 s)
    (fin : ∀ s', I ds.length s' → ∃ s'', k s' = some (o, s'')) : ∃ s'', sqO k (forL g b ds s) = some (o, s'') := by
  obtain ⟨s1, e, h1⟩ := forL_inv I ds 0 s (fun i d s e hI => by
    rw [Nat.zero_add] at hI ⊢
    exact st i d s e hI) h
  rw [Nat.zero_add] at h1
  obtain ⟨s2, e2⟩ := fin s1 h1
  refine ⟨s2, ?_⟩
  rw [e, q_sqO_nx, e2]
theorem cut1 {A : Type} (xs : List A) : cutL xs (some 1) none = xs.drop 1 := by
  unfold cutL sl0 sl1
  have e : HT.sIx xs.length 0 (some 1) = min 1 xs.length := HT.sIx_nat xs.length 0 1
  rw [e, HT.sIx_none]
  cases xs with
  | nil => rfl
  | cons a r =>
    rw [show min 1 (a :: r).length = 1 by simp]
    rw [List.take_of_length_le (by simp)]
theorem v_add_tpI {a b : List Int} (h : a.length + b.length ≤ LEN) : addD (.tup (a.map D.int)) (.tup (b.map D.int)) = some (.tup ((a ++ b).map D.int), false) := by
  unfold addD
  simp only [List.length_map]
  rw [if_pos h, List.map_append]
theorem v_mul_one {x : Int} {k : Int} (h1 : -1000 ≤ k) (h2 : k ≤ 1000) : mulD (.tup [.int x]) (.int k) = some (.tup ((List.replicate k.toNat x).map D.int), false) := by
  show (if _ ∧ _ ∧ _ ∧ _ then _ else none) = _
  rw [if_pos ⟨by simp, h1, h2, by simp⟩]
  have e : (List.replicate k.toNat [D.int x]).flatten = (List.replicate k.toNat x).map D.int := by
    rw [List.map_replicate]
    generalize k.toNat = n
    induction n with
    | zero => rfl
    | succ n ih => rw [List.replicate_succ, List.flatten_cons, ih, List.replicate_succ]; rfl
  rw [e]
theorem ints_of {Q : Int → Prop} : ∀ {out : List D}, (∀ v ∈ out, ∃ n, v = .int n ∧ Q n) → ∃ ns : List Int, out = ns.map D.int ∧ ∀ n ∈ ns, Q n
  | [], _ => ⟨[], rfl, by simp⟩
  | v :: r, h => by
    obtain ⟨n, rfl, q⟩ := h v (List.mem_cons_self ..)
    obtain ⟨ns, rfl, qs⟩ := ints_of fun w m => h w (List.mem_cons_of_mem _ m)
    exact ⟨n :: ns, rfl, fun x m => by rcases List.mem_cons.mp m with rfl | m; exact q; exact qs x m⟩
theorem le_of_sum : ∀ {l : List Int}, (∀ x ∈ l, 0 ≤ x) → ∀ x ∈ l, x ≤ l.sum
  | [], _, _, h => by cases h
  | a :: r, n, x, m => by
    have s0 : ∀ {l : List Int}, (∀ x ∈ l, 0 ≤ x) → 0 ≤ l.sum := by
      intro l
      induction l with
      | nil => simp
      | cons b t ih =>
        intro h
        have := ih fun x m => h x (List.mem_cons_of_mem _ m)
        have := h b (List.mem_cons_self ..)
        simp
        omega
    have n' : ∀ x ∈ r, 0 ≤ x := fun x m => n x (List.mem_cons_of_mem _ m)
    have := s0 n'
    have := n a (List.mem_cons_self ..)
    rcases List.mem_cons.mp m with rfl | m
    · simp
      omega
    · have := le_of_sum n' x m
      simp
      omega
end FD

/-! F26: {}. -/
namespace FD
open PySem PySem.Spec PyProof.Rows L2
def dct0F {T : Type} : EF T := fun s => some (.ok (.f (.dct [])), s)
theorem ev_dct0 {Z : Wd} {X : Cx} {C : Fx Z} {pos : Pos} : PE X (.Dict [] [] pos) (tF C dct0F) := ⟨fun pins s σ H Q I h => pe_dnewK.run pins s σ H Q I fun p hp => by
  obtain ⟨ow, τ, t, o, s', R, h0, e, k⟩ := h
  cases e
  have g : Gets Z (C.Hid ow) H (.ref p) (upd H p (.dK [])) (.dct [], true) := ⟨p, _, rfl, hp, rfl, .dct .nil, nofun⟩
  obtain ⟨ow', R', r', x⟩ := R.gets h0 g
  exact k ow' _ _ R' r' x⟩
theorem q_dct0 {T : Type} {s : Sg T} : dct0F s = some (.ok (.f (.dct [])), s) := (rfl)
end FD

set_option maxHeartbeats 1000000
/-! F27: enumerate over a tuple. -/
namespace FD
open PySem PySem.Spec PyProof.Rows L2
theorem meets_enumT (l : Addr) (items : Array Value) (n : Nat) (dct : Option Addr) (sl : Array (Option Value)) :
    Meets (Builtin.«enumerate.__new__» ⟨[.type "enumerate", .ref l], []⟩) (fun _ R s => s.heap.get? l = some { cls := .type "tuple", dict := dct, data := .seq items n, slots := sl } ∧
      R (.ok (.ret (.ref (s.heap.objs.size + 1)))) { s with heap := (s.heap.push { cls := .type "tuple_iterator", data := .fields #[.ref l, .int 0 0] }).push { cls := .type "enumerate", data := .fields #[.none, .bool false, .ref s.heap.objs.size, rawInt 0, .none, .none] } }) :=
  .of_wp fun prog w A R s h => by
    obtain ⟨hp, g, d, tk, os⟩ := s
    obtain ⟨hl, h⟩ := h
    have sub := sub_enumerate
    have tup : Heap.IsTuple (Shared.heap ⟨hp, g, d, tk, os⟩) l items := ⟨_, hl, rfl, n, rfl⟩
    wp_walk using wpAny_loadPart' hl
    refine wpAny_stack_any fun st => wpAny_pure ?_
    split
    all_goals try (rename_i c _ _ _ _ _; cases (c == Value.type "enumerate"))
    all_goals
      wp_walk using wpAny_loadPart' hl, wpAny_pyIter_tuple tup
      exact ⟨_, by rw [Heap.size_push], h⟩
theorem enum_push {h : Heap} {l : Addr} : IsEnum ((h.push { cls := .type "tuple_iterator", data := .fields #[.ref l, .int 0 0] }).push { cls := .type "enumerate", data := .fields #[.none, .bool false, .ref h.objs.size, rawInt 0, .none, .none] }) (h.objs.size + 1) h.objs.size 0 .none := by
  have e := Heap.get?_push_size (h.push { cls := .type "tuple_iterator", data := .fields #[.ref l, .int 0 0] }) (o := { cls := .type "enumerate", data := .fields #[.none, .bool false, .ref h.objs.size, rawInt 0, .none, .none] }) rfl
  rw [Heap.size_push] at e
  exact e
theorem call_enumT {prog : Program} {w : World} {A : Around} {E : Value → Shared → Prop} {s : Shared} {l : Addr} {items : Array Value} {Q : Value → Shared → Prop} (ht : IsTup s.heap l items)
    (h : ∀ h', IsEnum h' (s.heap.objs.size + 1) s.heap.objs.size 0 .none → h'.IsTupleIter s.heap.objs.size l 0 → (∀ b o, s.heap.get? b = some o → h'.get? b = some o) → Q (.ref (s.heap.objs.size + 1)) { s with heap := h' }) :
    wpAny (model prog w) A (call (.type "enumerate") [.ref l]) Q E s := by
  obtain ⟨⟨cls, dd, data, sl⟩, ho, hc, n, hd⟩ := ht
  simp only at hc hd
  subst hc hd
  exact callType_new F.called_enumerate (by decide) (F.typeCall_enumerate_1 _) (F.newCall_enumerate_1 _) (fun obj => F.args_object_init_2 obj _) F.entry_enumerate_new (meets_enumT l items n dd sl)
    ⟨ho, ⟨_, enum_push, rfl⟩, h _ enum_push ⟨_, Heap.get?_push_of_some _ (Heap.get?_push_size _ rfl), rfl, rfl⟩ fun b o x => Heap.get?_push_of_some _ (Heap.get?_push_of_some _ x)⟩
/-- the tuple at a, each item in a new pair -/
def IteT (K : PySem.W.Frag) (a : Addr) : It :=
  ⟨fun i H => ∃ (xs : List V) (x : V), SqT K H a xs ∧ xs[i]? = some x, fun i H v H' => ∃ T x, v = .ref T ∧ H T = none ∧ H' = upd H T (.tup [.int (i : Nat), x]) ∧ ∀ xs, SqT K H a xs → xs[i]? = some x, fun i H => ∃ xs : List V, SqT K H a xs ∧ xs.length = i⟩
theorem turn_enumT {P : Program} {w : World} {K : PySem.W.Frag} {elts : List Expr} {kk : Nat} {tpos : Pos} (a e it : Addr) :
    Turn P w K (.Tuple elts kk tpos) (IteT K a) [e, it] e (fun i h => (∃ old, IsEnum h e it ((i : Nat) : Int) old) ∧ h.IsTupleIter it a i ∧ e ≠ it) where
  mem := by simp
  obj := fun i h ⟨⟨old, he⟩, ⟨o, ho, hc, hd⟩, _⟩ b hb => by
    rcases List.mem_cons.mp hb with rfl | hb
    · exact ⟨_, he, fun v q => nomatch q⟩
    · obtain rfl := List.mem_singleton.mp hb
      exact ⟨o, ho, fun v q => by rw [hd] at q; cases q⟩
  keep := fun i h h' ⟨⟨old, he⟩, hi, hne⟩ k => ⟨⟨old, k e (List.mem_cons_self ..) _ he⟩, hi.at fun o q => k it (by simp) o q, hne⟩
  item := by
    intro X hP hw hK hc i pins s σ H E I hf ⟨⟨old, he⟩, hit, hne⟩ ⟨xs, x, hq, hx⟩
    subst hP hw hK
    obtain ⟨its, rv, p, hz⟩ := I.tuple hq
    obtain ⟨u, hu, ru⟩ := rv.get hx
    have ta : a ≠ it := fun z => by
      obtain ⟨o, ho, c, _⟩ := hit
      obtain ⟨o2, ho2, c2, _⟩ := p
      rw [z, ho] at ho2
      cases ho2
      rw [c] at c2
      exact absurd c2 (by decide)
    have ea : e ≠ a := fun z => by
      obtain ⟨o2, ho2, c2, _⟩ := p
      have q := he
      unfold IsEnum at q
      rw [z, ho2] at q
      cases q
      simp at c2
    have hel : e < s.heap.objs.size := Heap.lt_size he
    have hil : it < s.heap.objs.size := by obtain ⟨_, q, _⟩ := hit; exact Heap.lt_size q
    have hi : i < its.toArray.size := by
      rw [List.size_toArray]
      exact (List.getElem?_eq_some_iff.mp hu).1
    refine wpAny_pyNext_enum_itemD (Draws.tuple (A := X.A.in1) (show X.A.in1.handled = none from I.ok.hd hc) it a ta its.toArray) he ⟨hit, p⟩ hi hne (by simp [hne, ea]) fun y h' tk hy ho st' hT hsz hk => ?_
    obtain rfl : y = u := by
      have : its.toArray[i]? = some u := by simpa using hu
      rw [this] at hy
      cases hy
      rfl
    refine ⟨_, rfl, wpAny_letOwnedTupleGo_enum (s := { s with heap := h', toks := tk + 1 }) ho fun h'' he' sb => ?_⟩
    have hT2 : h''.get? s.heap.objs.size = some { cls := .type "tuple", data := .seq #[.int i tk, y] } := (sb.2 _ (Nat.ne_of_gt hel)).trans hT
    have new : ObjOk X.prog X.w (upd H s.heap.objs.size (.tup [.int (i : Nat), x])) h'' s.heap.objs.size (.tup [.int (i : Nat), x]) :=
      ⟨by show 2 ≤ sizeLine; decide, [.int i tk, y], .cons ⟨_, rfl⟩ (.cons ru .nil), ⟨_, hT2, rfl, _, rfl⟩⟩
    have I1 : Inv X pins σ (upd H s.heap.objs.size (.tup [.int (i : Nat), x])) { s with heap := h'', toks := tk + 1 } :=
      I.turnedNew (ch := [e, it]) (fun b ob hb q => (sb.2 b (fun z => hb (by simp [z]))).trans (hk b ob (fun z => hb (by simp [z])) (fun z => hb (by simp [z])) q)) hf (Nat.le_refl _) new
    have fr := I.hok.fresh (Nat.le_refl s.heap.objs.size)
    refine ⟨.ref s.heap.objs.size, _, I1, rfl, ⟨_, x, rfl, fr, rfl, fun ys hy => by rw [I.tuple_inj hy hq]; exact hx⟩, ⟨⟨y, ?_⟩, st'.1.at fun o q => (sb.2 it (Ne.symm hne)).trans q, hne⟩, fun b hb => ?_⟩
    · rw [show ((i + 1 : Nat) : Int) = (i : Int) + 1 by omega]
      exact he'
    · have lt : b < s.heap.objs.size := by
        rcases List.mem_cons.mp hb with rfl | hb
        · exact hel
        · obtain rfl := List.mem_singleton.mp hb
          exact hil
      rw [upd_ne (Nat.ne_of_lt lt)]
      exact (hf b hb).1
  done := by
    intro X hP hw hK hc i pins s σ H E I hf ⟨⟨old, he⟩, hit, hne⟩ ⟨xs, hq, hx⟩
    subst hP hw hK
    obtain ⟨its, rv, p, hz⟩ := I.tuple hq
    obtain ⟨f0, f1, f2, f3, f4, f5⟩ := hf it (by simp)
    have ta : a ≠ it := fun z => by
      obtain ⟨o, ho, c, _⟩ := hit
      obtain ⟨o2, ho2, c2, _⟩ := p
      rw [z, ho] at ho2
      cases ho2
      rw [c] at c2
      exact absurd c2 (by decide)
    have hl : i = its.toArray.size := by rw [List.size_toArray, ← hx, rv.length]
    exact wpAny_pyNext_enum_endD (Draws.tuple (A := X.A.in1) (show X.A.in1.handled = none from I.ok.hd hc) it a ta its.toArray) he ⟨hl ▸ hit, p⟩ fun h' eb => ⟨rfl, I.turned (t' := s.toks) (fun b o hb q => eb b o hb q) f0 f1 f3 f4 f5⟩
  self := fun A i s Q E ⟨⟨_, he⟩, _⟩ h => wpAny_pyIter_enum he h
/-- what enumerate walks: a list or a tuple -/
def iEnumA (K : PySem.W.Frag) (ta : TA) : TI := fun σ H R => ta σ H fun vs H1 => ∃ a xs, vs = [.ref a] ∧ ((SqL K H1 a xs ∧ R (Ite K a) H1) ∨ (SqT K H1 a xs ∧ R (IteT K a) H1))
theorem pi_enumA {X : Cx} {e : Expr} {ta : TA} {p pos tpos : Pos} {elts : List Expr} {kk : Nat} (hg : Gl X "enumerate") (hm : X.mg "enumerate" = none) (ha : PA X [e] ta) (hs : starEach [e] X.env = [(false, eval e X.env)] := by rfl) :
    PI X (.Tuple elts kk tpos) (.Call (.Name "enumerate" p) [e] [] pos) (iEnumA X.K ta) := by
  refine ⟨fun pins s σ H R I h => ?_⟩
  refine Call_ (ld_blt I hg hm boot_enumerate (PyProof.Rows.callWith_type1 (thn (ha.run pos pins s σ H _ I h) fun us s1 ⟨vs, H1, I1, r1, a, xs, ex, hq⟩ => ?_) hs rfl))
  subst ex
  cases r1 with
  | cons r rr =>
    cases rr
    cases r
    have fresh : ∀ b ∈ [s1.heap.objs.size + 1, s1.heap.objs.size], FpOk X pins H1 b := fun b hb => by
      have le : s1.heap.objs.size ≤ b := by
        rcases List.mem_cons.mp hb with rfl | hb
        · exact Nat.le_succ _
        · obtain rfl := List.mem_singleton.mp hb
          exact Nat.le_refl _
      exact I1.fpOk le (I1.hok.fresh le)
    rcases hq with ⟨hq, q⟩ | ⟨hq, q⟩
    · obtain ⟨its, rv, p', hz⟩ := I1.list hq
      refine call_enumerate_list p'.isList fun h' he hit hsz hk => wpAny_pyIter_enum he ?_
      exact ⟨s1.heap.objs.size + 1, _, _, _, H1, rfl, I1.kept (t' := s1.toks) hk, turn_enum a (s1.heap.objs.size + 1) s1.heap.objs.size, ⟨⟨.none, he⟩, hit, Nat.succ_ne_self _⟩, fresh, q⟩
    · obtain ⟨its, rv, p', hz⟩ := I1.tuple hq
      refine call_enumT p' fun h' he hit hk => wpAny_pyIter_enum he ?_
      exact ⟨s1.heap.objs.size + 1, _, _, _, H1, rfl, I1.kept (t' := s1.toks) hk, turn_enumT a (s1.heap.objs.size + 1) s1.heap.objs.size, ⟨⟨.none, he⟩, hit, Nat.succ_ne_self _⟩, fresh, q⟩
theorem walk_enumT {K : PySem.W.Frag} {a : Addr} {xs : List V} : Walk (IteT K a) xs.length (fun H => SqT K H a xs) (YPair (fun i => some (.int (i : Nat))) (fun i => xs[i]?)) := by
  refine ⟨fun i _ hi q => ⟨xs, xs[i], q, by simp [hi]⟩, fun _ q => ⟨xs, q, rfl⟩, fun i H v H' _ q y => ?_⟩
  obtain ⟨T, x, h1, h2, h3, h4⟩ := y
  exact ⟨T, _, x, h1, h2, h3, rfl, h4 xs q⟩
def enumL : Nat → List D → List D
  | _, [] => []
  | k, d :: ds => .tup [.int (k : Nat), d] :: enumL (k + 1) ds
theorem enumL_len : ∀ (ds : List D) (k : Nat), (enumL k ds).length = ds.length
  | [], _ => rfl
  | d :: ds, k => by simp [enumL, enumL_len ds]
theorem enumL_get : ∀ {ds : List D} {k i : Nat} {d : D}, ds[i]? = some d → (enumL k ds)[i]? = some (.tup [.int ((k + i : Nat) : Int), d])
  | [], _, _, _, h => by simp at h
  | d :: ds, k, 0, _, h => by cases h; rfl
  | d :: ds, k, i + 1, _, h => by
    have := enumL_get (ds := ds) (k := k + 1) (i := i) h
    rw [show k + 1 + i = k + (i + 1) by omega] at this
    exact this
def enumD : List D → Option (List D)
  | [.lst ds] => some (enumL 0 ds)
  | [.tup ds] => some (enumL 0 ds)
  | _ => none
section
variable {Z : Wd} {X : Cx} {C : Fx Z}
theorem walks_enum {O : Addr → Prop} {H : Hp} {J : It} {xs : List V} {ds : List D} {G : Hp → Prop} (w : Walk J ds.length G (YPair (fun i => some (.int (i : Nat))) (fun i => xs[i]?))) (hG : ∀ O' H', Ext O H O' H' → G H') (c : DenA Z O H xs ds) : Walks Z O H J (enumL 0 ds) := by
  refine ⟨G, _, by rw [enumL_len]; exact w, hG, fun i H1 v H2 O1 hi x hO y => ?_⟩
  obtain ⟨T, x1, y1, rfl, hT, rfl, e1, e2⟩ := y
  cases e1
  obtain ⟨d2, f2, n2⟩ := c.get e2
  obtain ⟨g, dn⟩ := pair_new hO hT (.int (i : Nat)) (n2.ext x)
  have := enumL_get (k := 0) f2
  rw [Nat.zero_add] at this
  exact ⟨_, this, g, dn⟩
theorem iv_enum {tpos p pos : Pos} {elts : List Expr} {kk : Nat} {e : Expr} {g : AF Z.T} (hg : Gl X "enumerate") (hm : X.mg "enumerate" = none) (ha : PA X [e] (tA C g)) (hs : starEach [e] X.env = [(false, eval e X.env)] := by rfl) :
    PI X (.Tuple elts kk tpos) (.Call (.Name "enumerate" p) [e] [] pos) (tI C (callI enumD g)) :=
  ⟨fun pins s σ H R I h => (pi_enumA hg hm ha hs).run pins s σ H R I (tA_mono (callI_of h) fun vs H1 ⟨O, ds, out, e, dn, k⟩ => by
    unfold enumD at e
    split at e
    · cases e
      cases dn with
      | cons d r =>
        cases r
        cases d with
        | ref e1 n1 c1 => cases c1 with
          | lst c1 => exact ⟨_, _, rfl, .inl ⟨SqL.of e1, k _ (walks_enum (by rw [← c1.len]; exact walk_enum) (fun O' H' x => SqL.of (x.kept _ _ e1 n1)) c1)⟩⟩
    · cases e
      cases dn with
      | cons d r =>
        cases r
        cases d with
        | ref e1 n1 c1 => cases c1 with
          | tup c1 => exact ⟨_, _, rfl, .inr ⟨SqT.of e1, k _ (walks_enum (by rw [← c1.len]; exact walk_enumT) (fun O' H' x => SqT.of (x.kept _ _ e1 n1)) c1)⟩⟩
    · cases e)⟩
end
theorem v_enum_l {ds : List D} : enumD [.lst ds] = some (enumL 0 ds) := (rfl)
theorem v_enum_t {ds : List D} : enumD [.tup ds] = some (enumL 0 ds) := (rfl)
end FD

/-! F28: str(). -/
namespace FD
open PySem PySem.Spec PyProof.Rows L2
def strD : List D → Option (D × Bool)
  | [.int i] => if i.natAbs < 2 ^ 1000 then some (.str (toString i), false) else none
  | [.str x] => some (.str x, false)
  | [.bl b] => some (.str (if b then "True" else "False"), false)
  | _ => none
theorem cD_str {Z : Wd} {X : Cx} : CallD Z X (.type "str") strD := by
  intro pins s σ H xs us Q I r h
  obtain ⟨O, ds, z, hO, sh, e, q⟩ := h
  unfold strD at e
  split at e
  · split at e
    · rename_i hi
      cases e
      cases sh with
      | cons sx sr =>
        cases sr
        cases sx.int
        have hl : (Int.natAbs ‹Int›).log2 < 1000 := PySem.Flt.log2_lt_of (by decide) hi
        exact call_str_int pins s σ H _ us Q I r ⟨_, rfl, Nat.lt_of_lt_of_le hl (by decide), q _ _ (.same (.str _))⟩
    · cases e
  · cases e
    cases sh with
    | cons sx sr =>
      cases sr
      cases sx.str
      exact SkE.call_str_str pins s σ H _ us Q I r ⟨_, rfl, q _ _ (.same (.str _))⟩
  · cases e
    cases sh with
    | cons sx sr =>
      cases sr
      cases sx.bl
      obtain ⟨u, rfl, r1⟩ := vals1 r
      cases (show u = Value.bool _ from r1)
      refine PySem.P.str_of_bool ?_
      exact ⟨.str _, H, I.tok _, ⟨_, rfl⟩, q _ _ (.same (.str _))⟩
  · cases e
theorem units65 {k : Nat} {A : Around} (r : Room k A) : A.units + 65 < cLine := by
  have := r.un
  omega
theorem v_str_i {i : Int} (h : i.natAbs < 2 ^ 1000) : strD [.int i] = some (.str (toString i), false) := if_pos h
end FD

/-! F29: three names at once. -/
namespace FD
open PySem PySem.Spec PyProof.Rows L2
section
variable {Z : Wd} {X : Cx} {C : Fx Z}
theorem set_swap {A : Type} (l : List A) {i j k : Nat} (h1 : i ≠ j) (h2 : i ≠ k) (h3 : j ≠ k) (a b c : A) : ((l.set k c).set j b).set i a = ((l.set i a).set j b).set k c := by
  rw [List.set_comm c b (Ne.symm h3), List.set_comm c a (Ne.symm h2), List.set_comm b a (Ne.symm h1)]
theorem sv_par3 {i j l : Nat} {x y z : Str} {a b c : Expr} {f g h : EF Z.T} {px py pz pt pos : Pos} {kt k2 pt2} (hc : X.calm = true) (hN : X.N.Nodup) (hi : X.N[i]? = some x) (hj : X.N[j]? = some y) (hl : X.N[l]? = some z) (hij : i ≠ j) (hil : i ≠ l) (hjl : j ≠ l)
    (hx : X.env.scope.names.lookup x = some .local) (hy : X.env.scope.names.lookup y = some .local) (hz : X.env.scope.names.lookup z = some .local) (ha : PE X a (tF C f)) (hb : PE X b (tF C g)) (hd : PE X c (tF C h))
    (hw : swappedStores [.Tuple [.Name x px, .Name y py, .Name z pz] kt pt] (.Tuple [a, b, c] k2 pt2) X.env = pure (some [x, y, z]))
    (hs : swapsWithSole [.Tuple [.Name x px, .Name y py, .Name z pz] kt pt] (.Tuple [a, b, c] k2 pt2) pos.line X.env = pure false := by rfl)
    (h1 : starEach [a, b, c] X.env = (false, eval a X.env) :: starEach [b, c] X.env := by rfl) (h2 : starEach [b, c] X.env = (false, eval b X.env) :: starEach [c] X.env := by rfl) (h3 : starEach [c] X.env = (false, eval c X.env) :: starEach [] X.env := by rfl) :
    PS X (.Assign [.Tuple [.Name x px, .Name y py, .Name z pz] kt pt] (.Tuple [a, b, c] k2 pt2) pos) (tS C (par3F i j l f g h)) :=
  ⟨fun pins s σ H E I hh => (ps_par3 hc hN hi hj hl hij hil hjl hx hy hz (pa_cons ha (pa_cons hb (pa_cons hd pa_nil h3) h2) h1) hw hs).run pins s σ H E I (by
    obtain ⟨ow, τ, t, R, z0, kn⟩ := hh
    refine tF_mono (kn.bind R z0) fun v H1 ⟨ow1, τ1, t1, r, R1, r1, k1, x1⟩ => ?_
    obtain ⟨o1, s1, e1, k1⟩ := k1
    simp only at e1
    split at e1
    · cases e1
    · rename_i d τ2 p1
      obtain ⟨ow2, R2, z2, d2, x2⟩ := r1.give R1 p1
      have kn2 : KnS C (sbind g (fun r2 s2 => match give s2.1 r2 with
        | none => none
        | some (d2, τ2) => sbind h (fun r3 s3 => match storeAt l s3.1 r3 with
          | none => none
          | some τ3 => some (.nx, ((τ3.set j (.v d2)).set i (.v d), s3.2))) (τ2, s2.2))) ow2 τ2 t1 H1 E := ⟨o1, s1, e1, k1.from x2⟩
      refine tF_mono (kn2.bind R2 z2) fun w H3 ⟨ow3, τ3, t3, r3, R3, q3, k3, x3⟩ => ?_
      obtain ⟨o3, s3, e3, k3⟩ := k3
      simp only at e3
      split at e3
      · cases e3
      · rename_i d' τ4 p3
        obtain ⟨ow4, R4, z4, d4, x4⟩ := q3.give R3 p3
        have kn4 : KnS C (sbind h (fun r3 s3 => match storeAt l s3.1 r3 with
          | none => none
          | some τ3 => some (.nx, ((τ3.set j (.v d')).set i (.v d), s3.2)))) ow4 τ4 t3 H3 E := ⟨o3, s3, e3, k3.from x4⟩
        refine tF_mono (kn4.bind R4 z4) fun u H5 ⟨ow5, τ5, t5, r5, R5, q5, k5, x5⟩ => ?_
        obtain ⟨o5, s5, e5, k5⟩ := k5
        simp only at e5
        split at e5
        · cases e5
        · rename_i τ6 p5
          cases e5
          obtain ⟨ow6, R6, z6, x6⟩ := R5.store q5 p5
          have R7 := R6.set (i := j) (d4.ext (x5.trans x6))
          have R8 := R7.set (i := i) ((((d2.ext (x3.trans x4)).ext (x5.trans x6)).ext ext_drop))
          refine ⟨v, w, u, rfl, ?_⟩
          rw [show ((σ.set i (some v)).set j (some w)).set l (some u) = ((σ.set l (some u)).set j (some w)).set i (some v) from (set_swap σ hij hil hjl _ _ _).symm]
          exact k5 _ _ H5 R8 (drop_zero (drop_zero z6)) ((x6.trans ext_drop).trans ext_drop))⟩
end
end FD

/-! F30: what holds behind a function of data: the part that waits comes to the front, what follows it stands behind. -/
namespace FD
open PySem PySem.Spec PyProof.Rows L2
section
variable {T : Type}
def wS (x : Option (SOut × Sg T)) (Q : SOut → Sg T → Prop) : Prop := ∃ o s, x = some (o, s) ∧ Q o s
def wE (x : Option (Out × Sg T)) (Q : Out → Sg T → Prop) : Prop := ∃ o s, x = some (o, s) ∧ Q o s
def wA (x : Option (OutA × Sg T)) (Q : OutA → Sg T → Prop) : Prop := ∃ o s, x = some (o, s) ∧ Q o s
def wI (x : Option (OutI × Sg T)) (Q : OutI → Sg T → Prop) : Prop := ∃ o s, x = some (o, s) ∧ Q o s
def wF (x : Option (FOut × T)) (Q : FOut → T → Prop) : Prop := ∃ o s, x = some (o, s) ∧ Q o s
def wL (x : Option (List D × T)) (Q : List D → T → Prop) : Prop := ∃ o s, x = some (o, s) ∧ Q o s
def wG (x : Option (List Sl)) (Q : List Sl → Prop) : Prop := ∃ o, x = some o ∧ Q o
def wV (x : Option (D × Bool)) (Q : D → Bool → Prop) : Prop := ∃ d b, x = some (d, b) ∧ Q d b
theorem w_S {o : SOut} {s : Sg T} {Q : SOut → Sg T → Prop} : wS (some (o, s)) Q = Q o s := propext ⟨fun ⟨_, _, e, h⟩ => by cases e; exact h, fun h => ⟨_, _, rfl, h⟩⟩
theorem w_E {o : Out} {s : Sg T} {Q : Out → Sg T → Prop} : wE (some (o, s)) Q = Q o s := propext ⟨fun ⟨_, _, e, h⟩ => by cases e; exact h, fun h => ⟨_, _, rfl, h⟩⟩
theorem w_A {o : OutA} {s : Sg T} {Q : OutA → Sg T → Prop} : wA (some (o, s)) Q = Q o s := propext ⟨fun ⟨_, _, e, h⟩ => by cases e; exact h, fun h => ⟨_, _, rfl, h⟩⟩
theorem w_I {o : OutI} {s : Sg T} {Q : OutI → Sg T → Prop} : wI (some (o, s)) Q = Q o s := propext ⟨fun ⟨_, _, e, h⟩ => by cases e; exact h, fun h => ⟨_, _, rfl, h⟩⟩
theorem w_F {o : FOut} {s : T} {Q : FOut → T → Prop} : wF (some (o, s)) Q = Q o s := propext ⟨fun ⟨_, _, e, h⟩ => by cases e; exact h, fun h => ⟨_, _, rfl, h⟩⟩
theorem w_L {o : List D} {s : T} {Q : List D → T → Prop} : wL (some (o, s)) Q = Q o s := propext ⟨fun ⟨_, _, e, h⟩ => by cases e; exact h, fun h => ⟨_, _, rfl, h⟩⟩
theorem w_G {o : List Sl} {Q : List Sl → Prop} : wG (some o) Q = Q o := propext ⟨fun ⟨_, e, h⟩ => by cases e; exact h, fun h => ⟨_, rfl, h⟩⟩
theorem w_V {d : D} {b : Bool} {Q : D → Bool → Prop} : wV (some (d, b)) Q = Q d b := propext ⟨fun ⟨_, _, e, h⟩ => by cases e; exact h, fun h => ⟨_, _, rfl, h⟩⟩
/-! ### statements -/
def sqQ (g : SF T) (Q : SOut → Sg T → Prop) : SOut → Sg T → Prop
  | .nx, s => wS (g s) Q
  | o, s => Q o s
theorem w_sqO {g : SF T} {x : Option (SOut × Sg T)} {Q : SOut → Sg T → Prop} : wS (sqO g x) Q = wS x (sqQ g Q) := by
  rcases x with _ | ⟨o, s⟩
  · exact propext ⟨fun ⟨_, _, e, _⟩ => (nomatch e), fun ⟨_, _, e, _⟩ => (nomatch e)⟩
  · rw [w_S]
    cases o with
    | nx => rfl
    | rt r => exact w_S
    | bk => exact w_S
    | ct => exact w_S
    | ex c fs => exact w_S
theorem w_sqQ_nx {g : SF T} {Q : SOut → Sg T → Prop} {s : Sg T} : sqQ g Q .nx s = wS (g s) Q := (rfl)
theorem w_sqQ_rt {g : SF T} {Q : SOut → Sg T → Prop} {s : Sg T} {r : Res} : sqQ g Q (.rt r) s = Q (.rt r) s := (rfl)
theorem w_sqQ_bk {g : SF T} {Q : SOut → Sg T → Prop} {s : Sg T} : sqQ g Q .bk s = Q .bk s := (rfl)
theorem w_sqQ_ct {g : SF T} {Q : SOut → Sg T → Prop} {s : Sg T} : sqQ g Q .ct s = Q .ct s := (rfl)
theorem w_sqQ_ex {g : SF T} {Q : SOut → Sg T → Prop} {s : Sg T} {c : Str} {fs : List (Str × D)} : sqQ g Q (.ex c fs) s = Q (.ex c fs) s := (rfl)
def sbQ (k : Res → SF T) (Q : SOut → Sg T → Prop) : Out → Sg T → Prop
  | .ok r, s => wS (k r s) Q
  | .ex c fs, s => Q (.ex c fs) s
theorem w_sbnd {k : Res → SF T} {x : Option (Out × Sg T)} {Q : SOut → Sg T → Prop} : wS (sbnd k x) Q = wE x (sbQ k Q) := by
  rcases x with _ | ⟨o, s⟩
  · exact propext ⟨fun ⟨_, _, e, _⟩ => (nomatch e), fun ⟨_, _, e, _⟩ => (nomatch e)⟩
  · rw [w_E]
    cases o with
    | ok r => rfl
    | ex c fs => exact w_S
theorem w_sbQ {k : Res → SF T} {Q : SOut → Sg T → Prop} {r : Res} {s : Sg T} : sbQ k Q (.ok r) s = wS (k r s) Q := (rfl)
theorem w_sbQ_ex {k : Res → SF T} {Q : SOut → Sg T → Prop} {c : Str} {fs : List (Str × D)} {s : Sg T} : sbQ k Q (.ex c fs) s = Q (.ex c fs) s := (rfl)
theorem w_ifB {g h : SF T} {s : Sg T} {b : Bool} {Q : SOut → Sg T → Prop} : wS (ifB g h s (some (.bl b))) Q = ((b = true → wS (g s) Q) ∧ (b = false → wS (h s) Q)) := by
  cases b
  · exact propext ⟨fun k => ⟨(fun z => nomatch z), fun _ => k⟩, fun k => k.2 rfl⟩
  · exact propext ⟨fun k => ⟨fun _ => k, (fun z => nomatch z)⟩, fun k => k.1 rfl⟩
/-! ### expressions -/
def bnQ (k : Res → EF T) (Q : Out → Sg T → Prop) : Out → Sg T → Prop
  | .ok r, s => wE (k r s) Q
  | .ex c fs, s => Q (.ex c fs) s
theorem w_bnd {k : Res → EF T} {x : Option (Out × Sg T)} {Q : Out → Sg T → Prop} : wE (bnd k x) Q = wE x (bnQ k Q) := by
  rcases x with _ | ⟨o, s⟩
  · exact propext ⟨fun ⟨_, _, e, _⟩ => (nomatch e), fun ⟨_, _, e, _⟩ => (nomatch e)⟩
  · rw [w_E]
    cases o with
    | ok r => rfl
    | ex c fs => exact w_E
theorem w_bnQ {k : Res → EF T} {Q : Out → Sg T → Prop} {r : Res} {s : Sg T} : bnQ k Q (.ok r) s = wE (k r s) Q := (rfl)
theorem w_bnQ_ex {k : Res → EF T} {Q : Out → Sg T → Prop} {c : Str} {fs : List (Str × D)} {s : Sg T} : bnQ k Q (.ex c fs) s = Q (.ex c fs) s := (rfl)
def abQ (k : List Res → EF T) (Q : Out → Sg T → Prop) : OutA → Sg T → Prop
  | .ok r, s => wE (k r s) Q
  | .ex c fs, s => Q (.ex c fs) s
theorem w_abnd {k : List Res → EF T} {x : Option (OutA × Sg T)} {Q : Out → Sg T → Prop} : wE (abnd k x) Q = wA x (abQ k Q) := by
  rcases x with _ | ⟨o, s⟩
  · exact propext ⟨fun ⟨_, _, e, _⟩ => (nomatch e), fun ⟨_, _, e, _⟩ => (nomatch e)⟩
  · rw [w_A]
    cases o with
    | ok r => rfl
    | ex c fs => exact w_E
theorem w_abQ {k : List Res → EF T} {Q : Out → Sg T → Prop} {r : List Res} {s : Sg T} : abQ k Q (.ok r) s = wE (k r s) Q := (rfl)
theorem w_abQ_ex {k : List Res → EF T} {Q : Out → Sg T → Prop} {c : Str} {fs : List (Str × D)} {s : Sg T} : abQ k Q (.ex c fs) s = Q (.ex c fs) s := (rfl)
def cn2Q (r : Res) (Q : OutA → Sg T → Prop) : OutA → Sg T → Prop
  | .ok rs, s => Q (.ok (hold r :: rs)) s
  | .ex c fs, s => Q (.ex c fs) s
theorem w_cnsA {r : Res} {x : Option (OutA × Sg T)} {Q : OutA → Sg T → Prop} : wA (cnsA r x) Q = wA x (cn2Q r Q) := by
  rcases x with _ | ⟨o, s⟩
  · exact propext ⟨fun ⟨_, _, e, _⟩ => (nomatch e), fun ⟨_, _, e, _⟩ => (nomatch e)⟩
  · rw [w_A]
    cases o with
    | ok r => exact w_A
    | ex c fs => exact w_A
theorem w_cn2Q {r : Res} {Q : OutA → Sg T → Prop} {rs : List Res} {s : Sg T} : cn2Q r Q (.ok rs) s = Q (.ok (hold r :: rs)) s := (rfl)
theorem w_cn2Q_ex {r : Res} {Q : OutA → Sg T → Prop} {c : Str} {fs : List (Str × D)} {s : Sg T} : cn2Q r Q (.ex c fs) s = Q (.ex c fs) s := (rfl)
def cnQ (g : AF T) (Q : OutA → Sg T → Prop) : Out → Sg T → Prop
  | .ok r, s => wA (cnsA r (g s)) Q
  | .ex c fs, s => Q (.ex c fs) s
theorem w_cnsK {g : AF T} {x : Option (Out × Sg T)} {Q : OutA → Sg T → Prop} : wA (cnsK g x) Q = wE x (cnQ g Q) := by
  rcases x with _ | ⟨o, s⟩
  · exact propext ⟨fun ⟨_, _, e, _⟩ => (nomatch e), fun ⟨_, _, e, _⟩ => (nomatch e)⟩
  · rw [w_E]
    cases o with
    | ok r => rfl
    | ex c fs => exact w_A
theorem w_cnQ {g : AF T} {Q : OutA → Sg T → Prop} {r : Res} {s : Sg T} : cnQ g Q (.ok r) s = wA (cnsA r (g s)) Q := (rfl)
theorem w_cnQ_ex {g : AF T} {Q : OutA → Sg T → Prop} {c : Str} {fs : List (Str × D)} {s : Sg T} : cnQ g Q (.ex c fs) s = Q (.ex c fs) s := (rfl)
theorem w_brB {g h : EF T} {s : Sg T} {b : Bool} {Q : Out → Sg T → Prop} : wE (brB g h s (some (.bl b))) Q = ((b = true → wE (g s) Q) ∧ (b = false → wE (h s) Q)) := by
  cases b
  · exact propext ⟨fun k => ⟨(fun z => nomatch z), fun _ => k⟩, fun k => k.2 rfl⟩
  · exact propext ⟨fun k => ⟨fun _ => k, (fun z => nomatch z)⟩, fun k => k.1 rfl⟩
def foQ (τ : List Sl) (Q : Out → Sg T → Prop) : FOut → T → Prop
  | .ok d fr, t => Q (.ok (resOf (d, fr))) (τ, t)
  | .ex c fs, t => Q (.ex c fs) (τ, t)
theorem w_fOut {τ : List Sl} {x : Option (FOut × T)} {Q : Out → Sg T → Prop} : wE (fOut τ x) Q = wF x (foQ τ Q) := by
  rcases x with _ | ⟨o, s⟩
  · exact propext ⟨fun ⟨_, _, e, _⟩ => (nomatch e), fun ⟨_, _, e, _⟩ => (nomatch e)⟩
  · rw [w_F]
    cases o with
    | ok r => exact w_E
    | ex c fs => exact w_E
theorem w_foQ {τ : List Sl} {Q : Out → Sg T → Prop} {d : D} {fr : Bool} {t : T} : foQ τ Q (.ok d fr) t = Q (.ok (resOf (d, fr))) (τ, t) := (rfl)
theorem w_foQ_ex {τ : List Sl} {Q : Out → Sg T → Prop} {c : Str} {fs : List (Str × D)} {t : T} : foQ τ Q (.ex c fs) t = Q (.ex c fs) (τ, t) := (rfl)
def ouQ (Q : FOut → T → Prop) : SOut → Sg T → Prop
  | .nx, s => Q (.ok .non false) s.2
  | .rt (.d d), s => Q (.ok d false) s.2
  | .rt (.f d), s => Q (.ok d true) s.2
  | .ex c fs, s => Q (.ex c fs) s.2
  | _, _ => False
theorem w_outF {x : Option (SOut × Sg T)} {Q : FOut → T → Prop} : wF (outF x) Q = wS x (ouQ Q) := by
  rcases x with _ | ⟨o, s⟩
  · exact propext ⟨fun ⟨_, _, e, _⟩ => (nomatch e), fun ⟨_, _, e, _⟩ => (nomatch e)⟩
  · rw [w_S]
    rcases o with _ | (_ | _ | _) | _ | _ | _
    · exact w_F
    · exact w_F
    · exact w_F
    · exact propext ⟨fun ⟨_, _, e, _⟩ => (nomatch e), fun e => e.elim⟩
    · exact propext ⟨fun ⟨_, _, e, _⟩ => (nomatch e), fun e => e.elim⟩
    · exact propext ⟨fun ⟨_, _, e, _⟩ => (nomatch e), fun e => e.elim⟩
    · exact w_F
theorem w_ouQ_nx {Q : FOut → T → Prop} {s : Sg T} : ouQ Q .nx s = Q (.ok .non false) s.2 := (rfl)
theorem w_ouQ_d {Q : FOut → T → Prop} {s : Sg T} {d : D} : ouQ Q (.rt (.d d)) s = Q (.ok d false) s.2 := (rfl)
theorem w_ouQ_f {Q : FOut → T → Prop} {s : Sg T} {d : D} : ouQ Q (.rt (.f d)) s = Q (.ok d true) s.2 := (rfl)
theorem w_ouQ_ex {Q : FOut → T → Prop} {s : Sg T} {c : Str} {fs : List (Str × D)} : ouQ Q (.ex c fs) s = Q (.ex c fs) s.2 := (rfl)
theorem w_dnO {s : Sg T} {x : Option (D × Bool)} {Q : Out → Sg T → Prop} : wE (dnO s x) Q = wV x fun d b => Q (.ok (resOf (d, b))) s := by
  rcases x with _ | ⟨d, b⟩
  · exact propext ⟨fun ⟨_, _, e, _⟩ => (nomatch e), fun ⟨_, _, e, _⟩ => (nomatch e)⟩
  · rw [w_V]
    exact w_E
/-! ### what is walked -/
def siQ (Q : OutI → Sg T → Prop) : Out → Sg T → Prop
  | .ok r, s => wI (siB (some (.ok r, s))) Q
  | .ex c fs, s => Q (.ex c fs) s
theorem w_siB {x : Option (Out × Sg T)} {Q : OutI → Sg T → Prop} : wI (siB x) Q = wE x (siQ Q) := by
  rcases x with _ | ⟨o, s⟩
  · exact propext ⟨fun ⟨_, _, e, _⟩ => (nomatch e), fun ⟨_, _, e, _⟩ => (nomatch e)⟩
  · rw [w_E]
    cases o with
    | ok r => rfl
    | ex c fs => exact w_I
theorem w_siQ {Q : OutI → Sg T → Prop} {r : Res} {s : Sg T} : siQ Q (.ok r) s = wI (itO s.2 (sqA (give s.1 r))) Q := (rfl)
theorem w_siQ_ex {Q : OutI → Sg T → Prop} {c : Str} {fs : List (Str × D)} {s : Sg T} : siQ Q (.ex c fs) s = Q (.ex c fs) s := (rfl)
def ciQ (op : List D → Option (List D)) (Q : OutI → Sg T → Prop) : OutA → Sg T → Prop
  | .ok r, s => wI (ciB op (some (.ok r, s))) Q
  | .ex c fs, s => Q (.ex c fs) s
theorem w_ciB {op : List D → Option (List D)} {x : Option (OutA × Sg T)} {Q : OutI → Sg T → Prop} : wI (ciB op x) Q = wA x (ciQ op Q) := by
  rcases x with _ | ⟨o, s⟩
  · exact propext ⟨fun ⟨_, _, e, _⟩ => (nomatch e), fun ⟨_, _, e, _⟩ => (nomatch e)⟩
  · rw [w_A]
    cases o with
    | ok r => rfl
    | ex c fs => exact w_I
theorem w_ciQ {op : List D → Option (List D)} {Q : OutI → Sg T → Prop} {r : List Res} {s : Sg T} : ciQ op Q (.ok r) s = wI (itO s.2 (opI op (giveAll s.1 r))) Q := (rfl)
theorem w_ciQ_ex {op : List D → Option (List D)} {Q : OutI → Sg T → Prop} {c : Str} {fs : List (Str × D)} {s : Sg T} : ciQ op Q (.ex c fs) s = Q (.ex c fs) s := (rfl)
def frQ (g : GF) (b : SF T) (Q : SOut → Sg T → Prop) : OutI → Sg T → Prop
  | .ok ds, s => wS (forL g b ds s) Q
  | .ex c fs, s => Q (.ex c fs) s
theorem w_frO {g : GF} {b : SF T} {x : Option (OutI × Sg T)} {Q : SOut → Sg T → Prop} : wS (frO g b x) Q = wI x (frQ g b Q) := by
  rcases x with _ | ⟨o, s⟩
  · exact propext ⟨fun ⟨_, _, e, _⟩ => (nomatch e), fun ⟨_, _, e, _⟩ => (nomatch e)⟩
  · rw [w_I]
    cases o with
    | ok r => rfl
    | ex c fs => exact w_S
theorem w_frQ {g : GF} {b : SF T} {Q : SOut → Sg T → Prop} {ds : List D} {s : Sg T} : frQ g b Q (.ok ds) s = wS (forL g b ds s) Q := (rfl)
theorem w_frQ_ex {g : GF} {b : SF T} {Q : SOut → Sg T → Prop} {c : Str} {fs : List (Str × D)} {s : Sg T} : frQ g b Q (.ex c fs) s = Q (.ex c fs) s := (rfl)
def lcQ (sh vs : List Nat) (g : GF) (c e : EF T) (Q : Out → Sg T → Prop) : OutI → Sg T → Prop
  | .ok ds, s => ds.length ≤ LEN ∧ wL (lcL g c e (hideFrom vs 0 (shareAll sh s.1)) ds s.2) fun out t => Q (.ok (.f (.lst out))) (shareAll sh s.1, t)
  | .ex c fs, s => Q (.ex c fs) s
theorem w_lcO {sh vs : List Nat} {g : GF} {c e : EF T} {x : Option (OutI × Sg T)} {Q : Out → Sg T → Prop} : wE (lcO sh vs g c e x) Q = wI x (lcQ sh vs g c e Q) := by
  rcases x with _ | ⟨o, s⟩
  · exact propext ⟨fun ⟨_, _, e, _⟩ => (nomatch e), fun ⟨_, _, e, _⟩ => (nomatch e)⟩
  · rw [w_I]
    cases o with
    | ok ds =>
      rw [q_lcO]
      show _ = (ds.length ≤ LEN ∧ _)
      by_cases h : ds.length ≤ LEN
      · rw [if_pos h]
        generalize lcL g c e (hideFrom vs 0 (shareAll sh s.1)) ds s.2 = y
        rcases y with _ | ⟨o, t⟩
        · exact propext ⟨fun ⟨_, _, e, _⟩ => (nomatch e), fun ⟨_, _, _, e, _⟩ => (nomatch e)⟩
        · rw [w_L, q_lcR, w_E]
          exact propext ⟨fun k => ⟨h, k⟩, fun k => k.2⟩
      · rw [if_neg h]
        exact propext ⟨fun ⟨_, _, e, _⟩ => (nomatch e), fun k => absurd k.1 h⟩
    | ex c fs => exact w_E
theorem w_lcQ {sh vs : List Nat} {g : GF} {c e : EF T} {Q : Out → Sg T → Prop} {ds : List D} {s : Sg T} : lcQ sh vs g c e Q (.ok ds) s = (ds.length ≤ LEN ∧ wL (lcL g c e (hideFrom vs 0 (shareAll sh s.1)) ds s.2) fun out t => Q (.ok (.f (.lst out))) (shareAll sh s.1, t)) := (rfl)
theorem w_lcQ_ex {sh vs : List Nat} {g : GF} {c e : EF T} {Q : Out → Sg T → Prop} {k : Str} {fs : List (Str × D)} {s : Sg T} : lcQ sh vs g c e Q (.ex k fs) s = Q (.ex k fs) s := (rfl)
theorem w_lcR {τ : List Sl} {x : Option (List D × T)} {Q : Out → Sg T → Prop} : wE (lcR τ x) Q = wL x fun out t => Q (.ok (.f (.lst out))) (τ, t) := by
  rcases x with _ | ⟨o, t⟩
  · exact propext ⟨fun ⟨_, _, e, _⟩ => (nomatch e), fun ⟨_, _, e, _⟩ => (nomatch e)⟩
  · rw [w_L, q_lcR, w_E]
theorem w_dsp {n : Nat} {x : Option (Out × Sg T)} {Q : Out → Sg T → Prop} : wE (if n ≤ 100000 then x else none) Q = (n ≤ 100000 ∧ wE x Q) := by
  by_cases h : n ≤ 100000
  · rw [if_pos h]
    exact propext ⟨fun k => ⟨h, k⟩, fun k => k.2⟩
  · rw [if_neg h]
    exact propext ⟨fun ⟨_, _, e, _⟩ => (nomatch e), fun k => absurd k.1 h⟩
/-! ### tests, items given -/
def tsQ (Q : Bool → Sg T → Prop) : Out → Sg T → Prop
  | .ok r, s => ∃ b, peek s.1 (hold r) = some (.bl b) ∧ Q b s
  | .ex _ _, _ => False
theorem w_tsQ {Q : Bool → Sg T → Prop} {r : Res} {s : Sg T} : tsQ Q (.ok r) s = ∃ b, peek s.1 (hold r) = some (.bl b) ∧ Q b s := (rfl)
theorem w_tsB {Q : Bool → Prop} {b : Bool} : (∃ c, some (D.bl b) = some (D.bl c) ∧ Q c) = Q b := propext ⟨fun ⟨_, e, h⟩ => by cases e; exact h, fun h => ⟨_, rfl, h⟩⟩
def gvQ (Q : D → T → Prop) : Out → Sg T → Prop
  | .ok r, s => ∃ d τ, give s.1 r = some (d, τ) ∧ Q d s.2
  | .ex _ _, _ => False
theorem w_gvQ {Q : D → T → Prop} {r : Res} {s : Sg T} : gvQ Q (.ok r) s = ∃ d τ, give s.1 r = some (d, τ) ∧ Q d s.2 := (rfl)
theorem w_gvB {Q : D → Prop} {d : D} {τ : List Sl} : (∃ d' τ', some (d, τ) = some (d', τ') ∧ Q d') = Q d := propext ⟨fun ⟨_, _, e, h⟩ => by cases e; exact h, fun h => ⟨_, _, rfl, h⟩⟩
/-! ### loops -/
def flQ (J : Sg T → Prop) (Q : SOut → Sg T → Prop) : SOut → Sg T → Prop
  | .nx, s => J s
  | .ct, s => J s
  | .bk, s => Q .nx s
  | o, s => Q o s
theorem w_flQ_nx {J : Sg T → Prop} {Q : SOut → Sg T → Prop} {s : Sg T} : flQ J Q .nx s = J s := (rfl)
theorem w_flQ_ct {J : Sg T → Prop} {Q : SOut → Sg T → Prop} {s : Sg T} : flQ J Q .ct s = J s := (rfl)
theorem w_flQ_bk {J : Sg T → Prop} {Q : SOut → Sg T → Prop} {s : Sg T} : flQ J Q .bk s = Q .nx s := (rfl)
theorem w_flQ_rt {J : Sg T → Prop} {Q : SOut → Sg T → Prop} {s : Sg T} {r : Res} : flQ J Q (.rt r) s = Q (.rt r) s := (rfl)
theorem w_flQ_ex {J : Sg T → Prop} {Q : SOut → Sg T → Prop} {s : Sg T} {c : Str} {fs : List (Str × D)} : flQ J Q (.ex c fs) s = Q (.ex c fs) s := (rfl)
theorem w_forK {g : GF} {b : SF T} {Q : SOut → Sg T → Prop} (I : Nat → Sg T → Prop) : ∀ (ds : List D) (k : Nat) (s : Sg T),
    (∀ i d s, ds[i]? = some d → I (k + i) s → wG (g d s.1) fun τ => wS (b (τ, s.2)) (flQ (I (k + i + 1)) Q)) → I k s → (∀ s, I (k + ds.length) s → Q .nx s) → wS (forL g b ds s) Q
  | [], k, s, _, h, fin => ⟨_, _, rfl, fin s h⟩
  | d :: ds, k, s, st, h, fin => by
    obtain ⟨τ, e1, o, s1, e2, h1⟩ := st 0 d s rfl h
    rw [q_forL_c, e1, q_flT, e2]
    have next : I (k + 1) s1 → wS (forL g b ds s1) Q := fun h1 => w_forK I ds (k + 1) s1 (fun i d' s e hI => by
      have := st (i + 1) d' s e (by rw [show k + (i + 1) = k + 1 + i by omega]; exact hI)
      rwa [show k + (i + 1) + 1 = k + 1 + i + 1 by omega] at this) h1 (fun s hs => fin s (by rw [List.length_cons, show k + (ds.length + 1) = k + 1 + ds.length by omega]; exact hs))
    cases o with
    | nx => exact next h1
    | ct => exact next h1
    | bk => exact ⟨_, _, rfl, h1⟩
    | rt r => exact ⟨_, _, rfl, h1⟩
    | ex c fs => exact ⟨_, _, rfl, h1⟩
theorem w_for {g : GF} {b : SF T} {Q : SOut → Sg T → Prop} {ds : List D} {s : Sg T} (I : Nat → Sg T → Prop) (h : I 0 s)
    (st : ∀ i d s, ds[i]? = some d → I i s → wG (g d s.1) fun τ => wS (b (τ, s.2)) (flQ (I (i + 1)) Q)) (fin : ∀ s, I ds.length s → Q .nx s) : wS (forL g b ds s) Q :=
  w_forK I ds 0 s (fun i d s e hI => by rw [Nat.zero_add] at hI ⊢; exact st i d s e hI) h (fun s hs => fin s (by rw [Nat.zero_add] at hs; exact hs))
/-- over a list of known things, the state known by what has been walked -/
theorem w_forA {A : Type} {g : GF} {b : SF T} {Q : SOut → Sg T → Prop} {ds : List D} {s : Sg T} (as : List A) (mk : A → D) (he : ds = as.map mk) (I : List A → Sg T → Prop) (h : I [] s)
    (st : ∀ l a r s, as = l ++ a :: r → I l s → wG (g (mk a) s.1) fun τ => wS (b (τ, s.2)) (flQ (I (l ++ [a])) Q)) (fin : ∀ s, I as s → Q .nx s) : wS (forL g b ds s) Q := by
  subst he
  refine w_for (fun i s => I (as.take i) s) (by simpa using h) (fun i d s e hI => ?_) (fun s hs => fin s (by simpa using hs))
  rw [List.getElem?_map] at e
  cases q : as[i]? with
  | none => rw [q] at e; cases e
  | some a =>
    rw [q] at e
    cases e
    have hi : i < as.length := (List.getElem?_eq_some_iff.mp q).1
    have e1 : as = as.take i ++ a :: as.drop (i + 1) := by
      have ha : as[i] = a := (List.getElem?_eq_some_iff.mp q).2
      rw [← ha, ← List.drop_eq_getElem_cons hi, List.take_append_drop]
    have := st (as.take i) a (as.drop (i + 1)) s e1 hI
    have e2 : as.take (i + 1) = as.take i ++ [a] := by rw [List.take_succ, q]; rfl
    rw [e2]
    exact this
/-- a comprehension whose parts leave the state as it is -/
theorem w_fm {A : Type} {g : GF} {c e : EF T} {τ0 : List Sl} {t : T} {ds : List D} {Q : List D → T → Prop} (as : List A) (mk : A → D) (he : ds = as.map mk) (p : A → Bool) (f : A → D)
    (h : ∀ a ∈ as, wG (g (mk a) τ0) fun τ1 => wE (c (τ1, t)) (tsQ fun b s2 => b = p a ∧ s2.2 = t ∧ (b = true → wE (e s2) (gvQ fun d t' => d = f a ∧ t' = t))))
    (k : Q ((as.filter p).map f) t) : wL (lcL g c e τ0 ds t) Q := by
  subst he
  refine ⟨_, _, lcL_fm mk f p as fun a ha => ?_, k⟩
  obtain ⟨τ1, e1, o, s2, e2, q2⟩ := h a ha
  cases o with
  | ex _ _ => exact q2.elim
  | ok rc =>
    obtain ⟨b, e3, hb, ht, k2⟩ := q2
    obtain ⟨τ2, t2⟩ := s2
    simp only at ht
    subst ht hb
    refine ⟨τ1, rc, τ2, e1, e2, e3, fun hp => ?_⟩
    obtain ⟨o3, s3, e4, q3⟩ := k2 hp
    cases o3 with
    | ex _ _ => exact q3.elim
    | ok r =>
      obtain ⟨d, τ4, e5, hd, ht⟩ := q3
      obtain ⟨τ3, t3⟩ := s3
      simp only at ht
      subst ht hd
      exact ⟨r, τ3, τ4, e4, e5⟩
theorem w_map {A : Type} {g : GF} {e : EF T} {τ0 : List Sl} {t : T} {ds : List D} {Q : List D → T → Prop} (as : List A) (mk : A → D) (he : ds = as.map mk) (f : A → D)
    (h : ∀ a ∈ as, wG (g (mk a) τ0) fun τ1 => wE (e (τ1, t)) (gvQ fun d t' => d = f a ∧ t' = t)) (k : Q (as.map f) t) : wL (lcL g yesF e τ0 ds t) Q := by
  refine w_fm as mk he (fun _ => true) f (fun a ha => ?_) (by
    have e : as.filter (fun _ => true) = as := List.filter_eq_self.mpr fun _ _ => rfl
    rw [e]
    exact k)
  obtain ⟨τ1, e1, q⟩ := h a ha
  refine ⟨τ1, e1, ?_⟩
  have y : (yesF : EF T) (τ1, t) = some (.ok (.d (.bl true)), (τ1, t)) := (rfl)
  show wE (yesF (τ1, t)) _
  rw [y, w_E]
  exact ⟨true, rfl, rfl, rfl, fun _ => q⟩
/-- a comprehension that changes the state -/
theorem w_lcI {g : GF} {e : EF T} {τ0 : List Sl} {t : T} {ds : List D} {Q : List D → T → Prop} (I : Nat → T → Prop) (P : Nat → D → Prop) (h : I 0 t)
    (st : ∀ i d t, ds[i]? = some d → I i t → wG (g d τ0) fun τ1 => wE (e (τ1, t)) (gvQ fun v t' => P i v ∧ I (i + 1) t'))
    (fin : ∀ out t', out.length = ds.length → (∀ i v, out[i]? = some v → P i v) → I ds.length t' → Q out t') : wL (lcL g yesF e τ0 ds t) Q := by
  obtain ⟨out, t', e1, l, ps, h2⟩ := lcL_inv (g := g) (e := e) (τ0 := τ0) I P ds 0 t (fun i d t e hI => by
    rw [Nat.zero_add] at hI ⊢
    obtain ⟨τ1, e1, o, s2, e2, q2⟩ := st i d t e hI
    cases o with
    | ex _ _ => exact q2.elim
    | ok r =>
      obtain ⟨v, τ4, e3, p, q⟩ := q2
      exact ⟨τ1, r, s2.1, s2.2, v, τ4, e1, e2, e3, p, q⟩) h
  exact ⟨out, t', e1, fin out t' l (fun i v hv => by have := ps i v hv; rwa [Nat.zero_add] at this) (by rwa [Nat.zero_add] at h2)⟩
def whQ (J : Sg T → Prop) (Q : SOut → Sg T → Prop) : SOut → Sg T → Prop := flQ J Q
/-- while: by a measure -/
theorem w_while {c : EF T} {b : SF T} {Q : SOut → Sg T → Prop} {s : Sg T} (I : Sg T → Prop) (m : Sg T → Nat) (h : I s)
    (st : ∀ s, I s → wE (c s) (tsQ fun k s1 => (k = true → wS (b s1) (flQ (fun s2 => I s2 ∧ m s2 < m s) Q)) ∧ (k = false → Q .nx s1))) : wS (whileF c b s) Q := by
  have key : ∀ n s, I s → m s < n → ∃ o s', whileN c b n s = some (o, s') ∧ Q o s' := by
    intro n
    induction n with
    | zero => intro s _ hn; omega
    | succ n ih =>
      intro s hI hn
      obtain ⟨o, s1, e1, q1⟩ := st s hI
      cases o with
      | ex _ _ => exact q1.elim
      | ok r =>
        obtain ⟨k, e2, k1, k2⟩ := q1
        rw [q_whileN, e1, q_sbnd, q_ifK, e2]
        cases k with
        | false => exact ⟨_, _, rfl, k2 rfl⟩
        | true =>
          obtain ⟨o, s2, e3, q3⟩ := k1 rfl
          rw [q_ifB_t, q_whL, e3]
          cases o with
          | nx => exact ih s2 q3.1 (by have := q3.2; omega)
          | ct => exact ih s2 q3.1 (by have := q3.2; omega)
          | bk => exact ⟨_, _, rfl, q3⟩
          | rt r => exact ⟨_, _, rfl, q3⟩
          | ex c fs => exact ⟨_, _, rfl, q3⟩
  obtain ⟨o, s', e, q⟩ := key (m s + 1) s h (Nat.lt_succ_self _)
  exact ⟨o, s', whileF_of e, q⟩
/-! ### in and out -/
theorem w_of {x : Option (FOut × T)} {Q : FOut → T → Prop} (h : wF x Q) : ∃ o t, x = some (o, t) ∧ Q o t := h
theorem w_eq {x : Option (FOut × T)} {o : FOut} {t : T} (h : wF x fun o' t' => o' = o ∧ t' = t) : x = some (o, t) := by
  obtain ⟨_, _, e, rfl, rfl⟩ := h
  exact e
theorem w_mono {x : Option (FOut × T)} {Q Q' : FOut → T → Prop} (h : wF x Q) (k : ∀ o t, Q o t → Q' o t) : wF x Q' := by
  obtain ⟨o, t, e, q⟩ := h
  exact ⟨o, t, e, k o t q⟩
end
def fwA :=
  And.intro (@w_S) <| And.intro (@w_E) <| And.intro (@w_A) <| And.intro (@w_I) <| And.intro (@w_F) <| And.intro (@w_L) <| And.intro (@w_G) <| And.intro (@w_V) <| And.intro (@w_sqO) <| And.intro (@w_sqQ_nx) <| And.intro (@w_sqQ_rt) <| And.intro (@w_sqQ_bk) <| And.intro (@w_sqQ_ct) <| And.intro (@w_sqQ_ex) <| And.intro (@w_sbnd) <| And.intro (@w_sbQ) <| And.intro (@w_sbQ_ex) <| And.intro (@w_ifB) <| And.intro (@w_bnd) <| And.intro (@w_bnQ) <| And.intro (@w_bnQ_ex) <| And.intro (@w_abnd) <| And.intro (@w_abQ) <| And.intro (@w_abQ_ex) <| And.intro (@w_cnsA) <| And.intro (@w_cn2Q) <| And.intro (@w_cn2Q_ex) <| And.intro (@w_cnsK) <| And.intro (@w_cnQ) <| And.intro (@w_cnQ_ex) <| And.intro (@w_brB) <| And.intro (@w_fOut) <| And.intro (@w_foQ) <| And.intro (@w_foQ_ex) <| And.intro (@w_outF) <| And.intro (@w_ouQ_nx) <| And.intro (@w_ouQ_d) <| And.intro (@w_ouQ_f) <| And.intro (@w_ouQ_ex) <| And.intro (@w_dnO) <| And.intro (@w_siB) <| And.intro (@w_siQ) <| And.intro (@w_siQ_ex) <| And.intro (@w_ciB) <| And.intro (@w_ciQ) <| And.intro (@w_ciQ_ex) <| And.intro (@w_frO) <| And.intro (@w_frQ) <| And.intro (@w_frQ_ex) <| And.intro (@w_lcO) <| And.intro (@w_lcQ) <| And.intro (@w_lcQ_ex) <| And.intro (@w_lcR) <| And.intro (@w_dsp) <| And.intro (@w_tsQ) <| And.intro (@w_tsB) <| And.intro (@w_gvQ) <| And.intro (@w_gvB) <| And.intro (@w_flQ_nx) <| And.intro (@w_flQ_ct) <| And.intro (@w_flQ_bk) <| And.intro (@w_flQ_rt) (@w_flQ_ex)
end FD

/-! F31: several names at once, with own objects for all. -/
namespace FD
open PySem PySem.Spec PyProof.Rows L2
/-- an expression that sees no own objects: its datum, whether it is new -/
def blkV {T : Type} (g : EF T) (τ : List Sl) (t : T) : Option (D × Bool × T) := match g (hideFrom [] 0 τ, t) with
  | some (.ok (.f d), s2) => some (d, true, s2.2)
  | some (.ok r, s2) => match give s2.1 r with
    | some (d, _) => some (d, false, s2.2)
    | none => none
  | _ => none
def slot1 (d : D) (fr : Bool) : Sl := if fr = true then .o d else .v d
/-- a, b = e, f -/
def parBF {T : Type} (i j : Nat) (f g : EF T) : SF T := sbind f fun r s => match blkV g s.1 s.2 with
  | none => none
  | some (d, fr, t2) => match storeAt i s.1 r with
    | none => none
    | some τ1 => some (.nx, (τ1.set j (slot1 d fr), t2))
/-- a, b, c = e, f, [] -/
def parBNF {T : Type} (i j k : Nat) (f g : EF T) : SF T := sbind f fun r s => match blkV g s.1 s.2 with
  | none => none
  | some (d, fr, t2) => match storeAt i s.1 r with
    | none => none
    | some τ1 => some (.nx, ((τ1.set j (slot1 d fr)).set k (.o (.lst [])), t2))
section
variable {Z : Wd} {C : Fx Z} {X : Cx} {ow : Nat → Option Addr} {τ : List Sl} {t : Z.T} {σ : L2.St} {H H' : Hp} {E : Ends}
/-- what a block's expression hands back -/
def Back (Z : Wd) (O : Addr → Prop) (H : Hp) (d : D) (fr : Bool) (t2 : Z.T) (w : V) (H2 : Hp) : Prop :=
  Z.On t2 H2 ∧ GrowZ Z H H2 ∧ (fr = false → Den Z O H2 w d) ∧ (fr = true → ∃ p o, w = .ref p ∧ H p = none ∧ H2 p = some o ∧ (∀ xs, o ≠ .tup xs) ∧ Cont Z (fun a => O a ∨ a = p) H2 o d)
theorem Rel.block0 (R : C.Rel ow τ t σ H) : (blkFx (Z := Z) (C.Hid ow) H).Rel (fun _ => none) (hideFrom [] 0 τ) t σ H := R.block (vs := [])
theorem den_blk {O : Addr → Prop} {H1 H2 : Hp} {ow2 : Nat → Option Addr} {v : V} {d : D} (h : Den Z ((blkFx (Z := Z) O H1).Hid ow2) H2 v d) : Den Z O H2 v d := h.mono fun a o e n => ⟨e, fun z => n (.inl z)⟩
theorem cont_blk {O : Addr → Prop} {H1 H2 : Hp} {ow2 : Nat → Option Addr} {v : HO} {d : D} (h : Cont Z ((blkFx (Z := Z) O H1).Hid ow2) H2 v d) : Cont Z O H2 v d := h.mono fun a o e n => ⟨e, fun z => n (.inl z)⟩
theorem block_run {g : EF Z.T} {d : D} {fr : Bool} {t2 : Z.T} (R : C.Rel ow τ t σ H) (e : blkV g τ t = some (d, fr, t2)) : tF (blkFx (Z := Z) (C.Hid ow) H) g σ H (Back Z (C.Hid ow) H d fr t2) := by
  have RB := R.block0
  unfold blkV at e
  have gz : ∀ {ow2 : Nat → Option Addr} {τ2 : List Sl} {t' : Z.T} {σ2 : L2.St} {H2 : Hp}, (blkFx (Z := Z) (C.Hid ow) H).Rel ow2 τ2 t' σ2 H2 → GrowZ Z H H2 := fun R2 a o e n => R2.grow a o e n
  split at e
  · rename_i d' s2 p
    cases e
    refine ⟨_, _, _, _, _, RB, rfl, p, fun ow' v H2 R2 r2 x2 => ?_⟩
    obtain ⟨a, o, h1, rfl, h3, c⟩ := r2
    obtain ⟨hn, u, e4, nt⟩ := R2.new _ a h1
    rw [h3] at e4
    cases e4
    exact ⟨R2.on, gz R2, (fun z => nomatch z), fun _ => ⟨a, o, rfl, hn, h3, nt, c.mono fun b u e n => ⟨e, fun z => n (z.elim (fun z => .inl z) fun z => by subst z; exact .inr ⟨0, h1⟩)⟩⟩⟩
  · rename_i r s2 nf p
    split at e
    · rename_i d' τ2 p2
      cases e
      refine ⟨_, _, _, _, _, RB, rfl, p, fun ow' v H2 R2 r2 x2 => ?_⟩
      obtain ⟨ow3, R3, z3, d3, x3⟩ := r2.give R2 p2
      exact ⟨R2.on, gz R2, fun _ => den_blk d3, (fun z => nomatch z)⟩
    · cases e
  · cases e
/-- the slots behind: i holds the first value, j the second -/
theorem store_back {r : Res} {v w : V} {τ1 : List Sl} {i j : Nat} {d : D} {fr : Bool} {t2 : Z.T} {H2 : Hp} (R : C.Rel ow τ t σ H) (r1 : ResOk C ow τ σ H v r) (e : storeAt i τ r = some τ1) (b : Back Z (C.Hid ow) H d fr t2 w H2) :
    ∃ ow', C.Rel ow' (τ1.set j (slot1 d fr)) t2 ((σ.set i (some v)).set j (some w)) H2 ∧ ow' 0 = none ∧ Ext (C.Hid ow) H (C.Hid ow') H2 := by
  obtain ⟨ow1, R1, z1, x1⟩ := R.store r1 e
  obtain ⟨on, gr, b1, b2⟩ := b
  have see : ∀ {H3 : Hp} (a : Addr) (o : HO), H3 a = some o → ¬ C.Hid ow a → ¬ C.Hid ow1 a := fun a o _ n q => by
    rcases x1.hid a q with h | h
    · exact n h
    · obtain ⟨u, e, _⟩ := R1.track q
      rw [h] at e
      cases e
  unfold slot1
  cases fr with
  | false =>
    rw [if_neg (by decide)]
    have R2 := R1.called on gr
    have d1 : Den Z (C.Hid ow1) H2 w d := (b1 rfl).mono fun a o e n => ⟨e, see (H3 := H2) a o e n⟩
    exact ⟨_, R2.set d1, drop_zero z1, (x1.trans (ext_grow R1 gr)).trans ext_drop⟩
  | true =>
    rw [if_pos rfl]
    obtain ⟨p, o, rfl, hn, e2, nt, c⟩ := b2 rfl
    have R2 := R1.adopt on gr hn e2 nt
    have c1 : Cont Z (C.Hid (put ow1 0 p)) H2 o d := by
      refine c.mono fun a u e n => ⟨e, fun q => ?_⟩
      rcases hid_put q with q | q
      · exact see (H3 := H2) a u e (fun z => n (.inl z)) q
      · exact n (.inr q)
    refine ⟨_, R2.setOwn put_same e2 c1, ?_, (x1.trans (ext_adopt R1 gr hn)).trans ext_move⟩
    unfold move
    rw [if_neg (by omega), if_pos rfl]
/-- the two values, then the names -/
theorem parB_of {i j : Nat} {f g : EF Z.T} {K : V → V → Hp → Prop} (h : tS C (parBF i j f g) E σ H) (k : ∀ v w ow' τ' t' H', C.Rel ow' τ' t' ((σ.set i (some v)).set j (some w)) H' → ow' 0 = none → (∀ H2 ow2 τ2 t2, C.Rel ow2 τ2 t2 ((σ.set i (some v)).set j (some w)) H2 → ow2 0 = none → Ext (C.Hid ow') H' (C.Hid ow2) H2 → (τ2, t2) = (τ', t') → E.nx ((σ.set i (some v)).set j (some w)) H2) → K v w H') :
    tF C f σ H fun v H1 => tFx Z g σ H1 fun w H2 => K v w H2 := by
  obtain ⟨ow, τ, t, R, z, kn⟩ := h
  refine tF_mono (tS_bind ⟨ow, τ, t, R, z, kn⟩) fun v H1 ⟨ow1, τ1, t1, r, R1, r1, k1⟩ => ?_
  obtain ⟨o1, s1, e1, k1⟩ := k1
  simp only at e1
  split at e1
  · cases e1
  · rename_i d fr t2 p1
    split at e1
    · cases e1
    · rename_i τ2 p2
      cases e1
      refine ⟨_, rfl, tF_mono (block_run R1 p1) fun w H2 b => ?_⟩
      obtain ⟨ow3, R3, z3, x3⟩ := store_back (j := j) R1 r1 p2 b
      exact k v w ow3 _ _ H2 R3 z3 fun H3 ow4 τ4 t4 R4 z4 x4 e => by
        cases e
        exact k1 ow4 _ H3 R4 z4 (x3.trans x4)
theorem sv_parB {i j : Nat} {x y : Str} {a b : Expr} {f g : EF Z.T} {px py pt pos : Pos} {kt k2 pt2} (hc : X.calm = true) (hN : X.N.Nodup) (hi : X.N[i]? = some x) (hj : X.N[j]? = some y) (hij : i ≠ j)
    (hx : X.env.scope.names.lookup x = some .local) (hy : X.env.scope.names.lookup y = some .local) (ha : PE X a (tF C f)) (hb : ∀ C : Fx Z, C.W = dead → PE X b (tF C g))
    (hw : swappedStores [.Tuple [.Name x px, .Name y py] kt pt] (.Tuple [a, b] k2 pt2) X.env = pure (some [x, y]))
    (hs : swapsWithSole [.Tuple [.Name x px, .Name y py] kt pt] (.Tuple [a, b] k2 pt2) pos.line X.env = pure false := by rfl)
    (h1 : starEach [a, b] X.env = (false, eval a X.env) :: starEach [b] X.env := by rfl) (h2 : starEach [b] X.env = (false, eval b X.env) :: starEach [] X.env := by rfl) :
    PS X (.Assign [.Tuple [.Name x px, .Name y py] kt pt] (.Tuple [a, b] k2 pt2) pos) (tS C (parBF i j f g)) :=
  ⟨fun pins s σ H E I h => (ps_par hc hN hi hj hij hx hy (pa_cons ha (pa_cons (ex_F hb) pa_nil h2) h1) hw hs).run pins s σ H E I
    (parB_of (K := fun v w H2 => ∃ v' w', [v, w] = [v', w'] ∧ E.nx ((σ.set i (some v')).set j (some w')) H2) h fun v w ow' τ' t' H' R z k => ⟨v, w, rfl, k H' ow' τ' t' R z .refl rfl⟩)⟩
theorem sv_tupB {i j : Nat} {x y : Str} {a b : Expr} {f g : EF Z.T} {px py pt pos : Pos} {kt k2 pt2} (hc : X.calm = true) (hN : X.N.Nodup) (hi : X.N[i]? = some x) (hj : X.N[j]? = some y)
    (hx : Loc X.env.scope x) (hy : Loc X.env.scope y) (ha : PE X a (tF C f)) (hb : ∀ C : Fx Z, C.W = dead → PE X b (tF C g))
    (hw : swappedStores [.Tuple [.Name x px, .Name y py] kt pt] (.Tuple [a, b] k2 pt2) X.env = pure none := by rfl)
    (hs : swapsWithSole [.Tuple [.Name x px, .Name y py] kt pt] (.Tuple [a, b] k2 pt2) pos.line X.env = pure false := by rfl)
    (h1 : starEach [a, b] X.env = (false, eval a X.env) :: starEach [b] X.env := by rfl) (h2 : starEach [b] X.env = (false, eval b X.env) :: starEach [] X.env := by rfl)
    (hf1 : X.fn x = true ∨ X.env.scope.names.lookup x = some .local := by first | exact .inl rfl | exact .inr rfl) (hf2 : X.fn y = true ∨ X.env.scope.names.lookup y = some .local := by first | exact .inl rfl | exact .inr rfl)
    (hn : (assignEach [.Name x px, .Name y py] X.env).length = 2 := by rfl) (hst : (assignEach [.Name x px, .Name y py] X.env).findIdx? (·.1) = none := by rfl)
    (h3 : (assignEach [.Tuple [.Name x px, .Name y py] kt pt] X.env).map (·.2) = [assign (.Tuple [.Name x px, .Name y py] kt pt) X.env] := by rfl)
    (h4 : (assignEach [.Name x px, .Name y py] X.env).map (·.2) = assign (.Name x px) X.env :: (assignEach [.Name y py] X.env).map (·.2) := by rfl)
    (h5 : (assignEach [.Name y py] X.env).map (·.2) = assign (.Name y py) X.env :: (assignEach [] X.env).map (·.2) := by rfl) :
    PS X (.Assign [.Tuple [.Name x px, .Name y py] kt pt] (.Tuple [a, b] k2 pt2) pos) (tS C (parBF i j f g)) :=
  ⟨fun pins s σ H E I h => (ps_asg (pe_tup (pa_cons ha (pa_cons (ex_F hb) pa_nil h2) h1)) (pg_tup (n := 2) hc (pgs_cons (pg_name hN hi hx hf1) (pgs_cons (pg_name hN hj hy hf2) pgs_nil h5) h4) hn hst) hs hw h3).run pins s σ H E I
    (parB_of (K := fun v w H2 => [v, w].length ≤ sizeLine ∧ ∀ p, H2 p = none → ∃ a xs, V.ref p = V.ref a ∧ SqT X.K (upd H2 p (.tup [v, w])) a xs ∧ xs.length = 2 ∧ gCons (gName i) (gCons (gName j) gNil) xs σ (upd H2 p (.tup [v, w])) E.nx) h
      fun v w ow' τ' t' H' R z k => ⟨by show 2 ≤ sizeLine; decide, fun p hp => ⟨p, _, rfl, SqT.of upd_same, rfl, v, _, rfl, w, _, rfl, rfl, k _ ow' τ' t' (R.grown (Grow.new hp)) z (Grow.new hp).ext rfl⟩⟩)⟩
theorem parBN_of {i j l : Nat} {f g : EF Z.T} {K : V → V → V → Hp → Prop} (h : tS C (parBNF i j l f g) E σ H) (k : ∀ u v w ow' τ' t' H', C.Rel ow' τ' t' (((σ.set i (some u)).set j (some v)).set l (some w)) H' → ow' 0 = none → (∀ H2 ow2 τ2 t2, C.Rel ow2 τ2 t2 (((σ.set i (some u)).set j (some v)).set l (some w)) H2 → ow2 0 = none → Ext (C.Hid ow') H' (C.Hid ow2) H2 → (τ2, t2) = (τ', t') → E.nx (((σ.set i (some u)).set j (some v)).set l (some w)) H2) → K u v w H') :
    tF C f σ H fun u H1 => tFx Z g σ H1 fun v H2 => ([] : List V).length ≤ sizeLine ∧ ∀ p, H2 p = none → K u v (.ref p) (upd H2 p (.lst [])) := by
  obtain ⟨ow, τ, t, R, z, kn⟩ := h
  refine tF_mono (tS_bind ⟨ow, τ, t, R, z, kn⟩) fun v H1 ⟨ow1, τ1, t1, r, R1, r1, k1⟩ => ?_
  obtain ⟨o1, s1, e1, k1⟩ := k1
  simp only at e1
  split at e1
  · cases e1
  · rename_i d fr t2 p1
    split at e1
    · cases e1
    · rename_i τ2 p2
      cases e1
      refine ⟨_, rfl, tF_mono (block_run R1 p1) fun w H2 b => ⟨Nat.zero_le _, fun p hp => ?_⟩⟩
      obtain ⟨ow3, R3, z3, x3⟩ := store_back (j := j) R1 r1 p2 b
      have R4 := R3.pend (o := .lst []) z3 hp (fun _ q => nomatch q)
      have R5 := R4.setOwn (i := l) (d := .lst []) put_same upd_same (.lst .nil)
      refine k v w _ _ _ _ _ R5 ?_ fun H3 ow4 τ4 t4 R4 z4 x4 e => by
        cases e
        exact k1 ow4 _ H3 R4 z4 (((x3.trans (ext_put hp)).trans ext_move).trans x4)
      unfold move
      rw [if_neg (by omega), if_pos rfl]
theorem sv_parBN {i j l : Nat} {x y z : Str} {a b : Expr} {f g : EF Z.T} {px py pz pt pos pe : Pos} {kt k2 pt2} (hc : X.calm = true) (hN : X.N.Nodup) (hi : X.N[i]? = some x) (hj : X.N[j]? = some y) (hl : X.N[l]? = some z) (hij : i ≠ j) (hil : i ≠ l) (hjl : j ≠ l)
    (hx : X.env.scope.names.lookup x = some .local) (hy : X.env.scope.names.lookup y = some .local) (hz : X.env.scope.names.lookup z = some .local) (ha : PE X a (tF C f)) (hb : ∀ C : Fx Z, C.W = dead → PE X b (tF C g))
    (hw : swappedStores [.Tuple [.Name x px, .Name y py, .Name z pz] kt pt] (.Tuple [a, b, .List [] pe] k2 pt2) X.env = pure (some [x, y, z]))
    (hs : swapsWithSole [.Tuple [.Name x px, .Name y py, .Name z pz] kt pt] (.Tuple [a, b, .List [] pe] k2 pt2) pos.line X.env = pure false := by rfl)
    (h1 : starEach [a, b, .List [] pe] X.env = (false, eval a X.env) :: starEach [b, .List [] pe] X.env := by rfl) (h2 : starEach [b, .List [] pe] X.env = (false, eval b X.env) :: starEach [.List [] pe] X.env := by rfl) :
    PS X (.Assign [.Tuple [.Name x px, .Name y py, .Name z pz] kt pt] (.Tuple [a, b, .List [] pe] k2 pt2) pos) (tS C (parBNF i j l f g)) :=
  ⟨fun pins s σ H E I h => (ps_par3 hc hN hi hj hl hij hil hjl hx hy hz (pa_cons ha (pa_cons (ex_F hb) (pa_cons (pe_lst pa_nil) pa_nil) h2) h1) hw hs).run pins s σ H E I
    (parBN_of (K := fun u v w H2 => ∃ u' v' w', [u, v, w] = [u', v', w'] ∧ E.nx (((σ.set i (some u')).set j (some v')).set l (some w')) H2) h fun u v w ow' τ' t' H' R z k => ⟨u, v, w, rfl, k H' ow' τ' t' R z .refl rfl⟩)⟩
end
/-- a, b, c = e, constant, constant -/
def par3CF {T : Type} (i j l : Nat) (f : EF T) (d1 d2 : D) : SF T := sbind f fun r s => match storeAt i s.1 r with
  | none => none
  | some τ1 => some (.nx, ((τ1.set j (.v d1)).set l (.v d2), s.2))
section
variable {Z : Wd} {C : Fx Z} {X : Cx}
theorem sv_par3C {i j l : Nat} {x y z : Str} {a b c : Expr} {f : EF Z.T} {v1 v2 : V} {d1 d2 : D} {px py pz pt pos : Pos} {kt k2 pt2} (hc : X.calm = true) (hN : X.N.Nodup) (hi : X.N[i]? = some x) (hj : X.N[j]? = some y) (hl : X.N[l]? = some z) (hij : i ≠ j) (hil : i ≠ l) (hjl : j ≠ l)
    (hx : X.env.scope.names.lookup x = some .local) (hy : X.env.scope.names.lookup y = some .local) (hz : X.env.scope.names.lookup z = some .local) (ha : PE X a (tF C f)) (hb : PE X b (tC v1)) (hc2 : PE X c (tC v2)) (h1d : ∀ O H, Den Z O H v1 d1) (h2d : ∀ O H, Den Z O H v2 d2)
    (hw : swappedStores [.Tuple [.Name x px, .Name y py, .Name z pz] kt pt] (.Tuple [a, b, c] k2 pt2) X.env = pure (some [x, y, z]))
    (hs : swapsWithSole [.Tuple [.Name x px, .Name y py, .Name z pz] kt pt] (.Tuple [a, b, c] k2 pt2) pos.line X.env = pure false := by rfl)
    (h1 : starEach [a, b, c] X.env = (false, eval a X.env) :: starEach [b, c] X.env := by rfl) (h2 : starEach [b, c] X.env = (false, eval b X.env) :: starEach [c] X.env := by rfl) (h3 : starEach [c] X.env = (false, eval c X.env) :: starEach [] X.env := by rfl) :
    PS X (.Assign [.Tuple [.Name x px, .Name y py, .Name z pz] kt pt] (.Tuple [a, b, c] k2 pt2) pos) (tS C (par3CF i j l f d1 d2)) :=
  ⟨fun pins s σ H E I h => (ps_par3 hc hN hi hj hl hij hil hjl hx hy hz (pa_cons ha (pa_cons hb (pa_cons hc2 pa_nil h3) h2) h1) hw hs).run pins s σ H E I (by
    obtain ⟨ow, τ, t, R, z, kn⟩ := h
    refine tF_mono (tS_bind ⟨ow, τ, t, R, z, kn⟩) fun v H1 ⟨ow1, τ1, t1, r, R1, r1, k1⟩ => ?_
    obtain ⟨o1, s1, e1, k1⟩ := k1
    simp only at e1
    split at e1
    · cases e1
    · rename_i τ2 p1
      cases e1
      obtain ⟨ow2, R2, z2, x2⟩ := R1.store r1 p1
      have R3 := R2.set (i := j) (h1d _ _)
      have R4 := R3.set (i := l) (h2d _ _)
      exact ⟨v, v1, v2, rfl, k1 _ _ _ R4 (drop_zero (drop_zero z2)) ((x2.trans ext_drop).trans ext_drop)⟩)⟩
def p3K {T : Type} (i j l : Nat) (d1 d2 : D) (t : T) : Option (List Sl) → Option (SOut × Sg T)
  | none => none
  | some τ1 => some (.nx, ((τ1.set j (.v d1)).set l (.v d2), t))
def p3R {T : Type} (i j l : Nat) (d1 d2 : D) (r : Res) : SF T := fun s => p3K i j l d1 d2 s.2 (storeAt i s.1 r)
theorem q_par3C {T : Type} {i j l : Nat} {f : EF T} {d1 d2 : D} {s : Sg T} : par3CF i j l f d1 d2 s = sbnd (p3R i j l d1 d2) (f s) := (rfl)
theorem q_p3R {T : Type} {i j l : Nat} {d1 d2 : D} {r : Res} {s : Sg T} : p3R i j l d1 d2 r s = p3K i j l d1 d2 s.2 (storeAt i s.1 r) := (rfl)
theorem q_p3K {T : Type} {i j l : Nat} {d1 d2 : D} {t : T} {τ1 : List Sl} : p3K i j l d1 d2 t (some τ1) = some (.nx, ((τ1.set j (.v d1)).set l (.v d2), t)) := (rfl)
end
/-! ### run by simp -/
section
variable {T : Type}
def bvG (t : T) : Option (D × List Sl) → Option (D × Bool × T)
  | some (d, _) => some (d, false, t)
  | none => none
def bvO : Option (Out × Sg T) → Option (D × Bool × T)
  | some (.ok (.f d), s2) => some (d, true, s2.2)
  | some (.ok (.d d), s2) => some (d, false, s2.2)
  | some (.ok (.s i), s2) => bvG s2.2 (give s2.1 (.s i))
  | _ => none
theorem q_blkV {g : EF T} {τ : List Sl} {t : T} : blkV g τ t = bvO (g (hideFrom [] 0 τ, t)) := by
  unfold blkV bvO bvG
  rcases g (hideFrom [] 0 τ, t) with _ | ⟨(_ | _ | _) | _, _⟩ <;> rfl
theorem q_bvO_f {d : D} {s : Sg T} : bvO (some (.ok (.f d), s)) = some (d, true, s.2) := (rfl)
theorem q_bvO_d {d : D} {s : Sg T} : bvO (some (.ok (.d d), s)) = some (d, false, s.2) := (rfl)
theorem q_bvO_s {i : Nat} {s : Sg T} : bvO (some (.ok (.s i), s)) = bvG s.2 (give s.1 (.s i)) := (rfl)
theorem q_bvG {d : D} {τ : List Sl} {t : T} : bvG t (some (d, τ)) = some (d, false, t) := (rfl)
theorem q_slot1_t {d : D} : slot1 d true = .o d := (rfl)
theorem q_slot1_f {d : D} : slot1 d false = .v d := (rfl)
def pb1 (j : Nat) (d : D) (fr : Bool) (t2 : T) : Option (List Sl) → Option (SOut × Sg T)
  | none => none
  | some τ1 => some (.nx, (τ1.set j (slot1 d fr), t2))
def pbO (i j : Nat) (r : Res) (τ : List Sl) : Option (D × Bool × T) → Option (SOut × Sg T)
  | none => none
  | some (d, fr, t2) => pb1 j d fr t2 (storeAt i τ r)
def pbK (i j : Nat) (g : EF T) (r : Res) : SF T := fun s => pbO i j r s.1 (blkV g s.1 s.2)
theorem q_parB {i j : Nat} {f g : EF T} {s : Sg T} : parBF i j f g s = sbnd (pbK i j g) (f s) := by
  unfold parBF sbind sbnd pbK pbO pb1
  rcases f s with _ | ⟨_ | _, _⟩ <;> rfl
theorem q_pbK {i j : Nat} {g : EF T} {r : Res} {s : Sg T} : pbK i j g r s = pbO i j r s.1 (blkV g s.1 s.2) := (rfl)
theorem q_pbO {i j : Nat} {r : Res} {τ : List Sl} {d : D} {fr : Bool} {t2 : T} : pbO i j r τ (some (d, fr, t2)) = pb1 j d fr t2 (storeAt i τ r) := (rfl)
theorem q_pb1 {j : Nat} {d : D} {fr : Bool} {t2 : T} {τ1 : List Sl} : pb1 j d fr t2 (some τ1) = some (.nx, (τ1.set j (slot1 d fr), t2)) := (rfl)
def pb2 (j k : Nat) (d : D) (fr : Bool) (t2 : T) : Option (List Sl) → Option (SOut × Sg T)
  | none => none
  | some τ1 => some (.nx, ((τ1.set j (slot1 d fr)).set k (.o (.lst [])), t2))
def pnO (i j k : Nat) (r : Res) (τ : List Sl) : Option (D × Bool × T) → Option (SOut × Sg T)
  | none => none
  | some (d, fr, t2) => pb2 j k d fr t2 (storeAt i τ r)
def pnK3 (i j k : Nat) (g : EF T) (r : Res) : SF T := fun s => pnO i j k r s.1 (blkV g s.1 s.2)
theorem q_parBN {i j k : Nat} {f g : EF T} {s : Sg T} : parBNF i j k f g s = sbnd (pnK3 i j k g) (f s) := by
  unfold parBNF sbind sbnd pnK3 pnO pb2
  rcases f s with _ | ⟨_ | _, _⟩ <;> rfl
theorem q_pnK3 {i j k : Nat} {g : EF T} {r : Res} {s : Sg T} : pnK3 i j k g r s = pnO i j k r s.1 (blkV g s.1 s.2) := (rfl)
theorem q_pnO {i j k : Nat} {r : Res} {τ : List Sl} {d : D} {fr : Bool} {t2 : T} : pnO i j k r τ (some (d, fr, t2)) = pb2 j k d fr t2 (storeAt i τ r) := (rfl)
theorem q_pb2 {j k : Nat} {d : D} {fr : Bool} {t2 : T} {τ1 : List Sl} : pb2 j k d fr t2 (some τ1) = some (.nx, ((τ1.set j (slot1 d fr)).set k (.o (.lst [])), t2)) := (rfl)
/-! what holds behind -/
def pbQ (i j : Nat) (r : Res) (τ : List Sl) (Q : SOut → Sg T → Prop) : Out → Sg T → Prop
  | .ok r2, s2 => wS (pbO i j r τ (bvO (some (.ok r2, s2)))) Q
  | .ex _ _, _ => False
theorem w_pbO {i j : Nat} {r : Res} {τ : List Sl} {x : Option (Out × Sg T)} {Q : SOut → Sg T → Prop} : wS (pbO i j r τ (bvO x)) Q = wE x (pbQ i j r τ Q) := by
  rcases x with _ | ⟨o, s⟩
  · exact propext ⟨fun ⟨_, _, e, _⟩ => (nomatch e), fun ⟨_, _, e, _⟩ => (nomatch e)⟩
  · rw [w_E]
    cases o with
    | ok r => rfl
    | ex c fs => exact propext ⟨fun ⟨_, _, e, _⟩ => (nomatch e), fun e => e.elim⟩
theorem w_pbQ {i j : Nat} {r r2 : Res} {τ : List Sl} {s : Sg T} {Q : SOut → Sg T → Prop} : pbQ i j r τ Q (.ok r2) s = wS (pbO i j r τ (bvO (some (.ok r2, s)))) Q := (rfl)
def pnQ (i j k : Nat) (r : Res) (τ : List Sl) (Q : SOut → Sg T → Prop) : Out → Sg T → Prop
  | .ok r2, s2 => wS (pnO i j k r τ (bvO (some (.ok r2, s2)))) Q
  | .ex _ _, _ => False
theorem w_pnO {i j k : Nat} {r : Res} {τ : List Sl} {x : Option (Out × Sg T)} {Q : SOut → Sg T → Prop} : wS (pnO i j k r τ (bvO x)) Q = wE x (pnQ i j k r τ Q) := by
  rcases x with _ | ⟨o, s⟩
  · exact propext ⟨fun ⟨_, _, e, _⟩ => (nomatch e), fun ⟨_, _, e, _⟩ => (nomatch e)⟩
  · rw [w_E]
    cases o with
    | ok r => rfl
    | ex c fs => exact propext ⟨fun ⟨_, _, e, _⟩ => (nomatch e), fun e => e.elim⟩
theorem w_pnQ {i j k : Nat} {r r2 : Res} {τ : List Sl} {s : Sg T} {Q : SOut → Sg T → Prop} : pnQ i j k r τ Q (.ok r2) s = wS (pnO i j k r τ (bvO (some (.ok r2, s)))) Q := (rfl)
end
/-! ### chains -/
section
variable {T : Type}
def chR (op' : D → D → Option (D × Bool)) (rb : Res) (rc : Res) : EF T := fun s => dnO s (op2 op' (peek s.1 (hold rb)) (peek s.1 (hold rc)))
def chB (op' : D → D → Option (D × Bool)) (h : EF T) (rb : Res) (s : Sg T) : Option (D × Bool) → Option (Out × Sg T)
  | some (.bl true, false) => bnd (chR op' rb) (h s)
  | some (.bl false, false) => some (.ok (.d (.bl false)), s)
  | _ => none
def chK2 (op op' : D → D → Option (D × Bool)) (h : EF T) (ra rb : Res) : EF T := fun s => chB op' h rb s (op2 op (peek s.1 (hold ra)) (peek s.1 (hold rb)))
def chK (op op' : D → D → Option (D × Bool)) (g h : EF T) (ra : Res) : EF T := fun s => bnd (chK2 op op' h ra) (g s)
theorem bind_bnd {f : EF T} {k : Res → EF T} {s : Sg T} : bindF f k s = bnd k (f s) := by
  unfold bindF bnd
  rcases f s with _ | ⟨_ | _, _⟩ <;> rfl
theorem q_chain {op op' : D → D → Option (D × Bool)} {f g h : EF T} {s : Sg T} : chainF op op' f g h s = bnd (chK op op' g h) (f s) := by
  unfold chainF
  rw [bind_bnd]
  congr 1
  funext ra s1
  rw [bind_bnd]
  unfold chK
  congr 1
  funext rb s2
  unfold chK2 op2
  cases peek s2.1 (hold ra) with
  | none => rfl
  | some x =>
    cases peek s2.1 (hold rb) with
    | none => rfl
    | some y =>
      simp only
      rcases op x y with _ | ⟨_ | (_ | _) | _ | _ | _ | _ | _ | _ | _ | _, _ | _⟩ <;> try rfl
theorem q_chK {op op' : D → D → Option (D × Bool)} {g h : EF T} {ra : Res} {s : Sg T} : chK op op' g h ra s = bnd (chK2 op op' h ra) (g s) := (rfl)
theorem q_chK2 {op op' : D → D → Option (D × Bool)} {h : EF T} {ra rb : Res} {s : Sg T} : chK2 op op' h ra rb s = chB op' h rb s (op2 op (peek s.1 (hold ra)) (peek s.1 (hold rb))) := (rfl)
theorem q_chB_t {op' : D → D → Option (D × Bool)} {h : EF T} {rb : Res} {s : Sg T} : chB op' h rb s (some (.bl true, false)) = bnd (chR op' rb) (h s) := (rfl)
theorem q_chB_f {op' : D → D → Option (D × Bool)} {h : EF T} {rb : Res} {s : Sg T} : chB op' h rb s (some (.bl false, false)) = some (.ok (.d (.bl false)), s) := (rfl)
theorem q_chR {op' : D → D → Option (D × Bool)} {rb rc : Res} {s : Sg T} : chR op' rb rc s = dnO s (op2 op' (peek s.1 (hold rb)) (peek s.1 (hold rc))) := (rfl)
theorem w_chB {op' : D → D → Option (D × Bool)} {h : EF T} {rb : Res} {s : Sg T} {b : Bool} {Q : Out → Sg T → Prop} : wE (chB op' h rb s (some (.bl b, false))) Q = ((b = true → wE (bnd (chR op' rb) (h s)) Q) ∧ (b = false → Q (.ok (.d (.bl false))) s)) := by
  cases b
  · exact propext ⟨fun k => ⟨(fun z => nomatch z), fun _ => by rw [q_chB_f, w_E] at k; exact k⟩, fun k => by rw [q_chB_f, w_E]; exact k.2 rfl⟩
  · exact propext ⟨fun k => ⟨fun _ => k, (fun z => nomatch z)⟩, fun k => k.1 rfl⟩
end
def fxA := And.intro (@q_blkV) <| And.intro (@q_bvO_f) <| And.intro (@q_bvO_d) <| And.intro (@q_bvO_s) <| And.intro (@q_bvG) <| And.intro (@q_slot1_t) <| And.intro (@q_slot1_f) <| And.intro (@q_parB) <| And.intro (@q_pbK) <| And.intro (@q_pbO) <| And.intro (@q_pb1) <| And.intro (@q_parBN) <| And.intro (@q_pnK3) <| And.intro (@q_pnO) <| And.intro (@q_pb2) <| And.intro (@q_chain) <| And.intro (@q_chK) <| And.intro (@q_chK2) <| And.intro (@q_chB_t) <| And.intro (@q_chB_f) <| And.intro (@q_chR) <| And.intro (@q_par3C) <| And.intro (@q_p3R) (@q_p3K)
def fyA := And.intro (@w_pbO) <| And.intro (@w_pbQ) <| And.intro (@w_pnO) <| And.intro (@w_pnQ) (@w_chB)
end FD

/-! L1: ordinary data: what repr can be asked of, what is the same as itself. -/
namespace FD
open PySem PySem.Spec PyProof.Rows L2
mutual
def ord (B : Nat) : Nat → D → Bool
  | _, .non => true
  | _, .bl _ => true
  | _, .int i => decide (i.natAbs ≤ B)
  | _, .str x => x.cps.toList.all fun c => decide (c < 16 ^ 8)
  | _ + 1, .dct kvs => kvs.isEmpty
  | k + 1, .tup ds => ordA B k ds
  | k + 1, .lst ds => ordA B k ds
  | _, _ => false
def ordA (B : Nat) : Nat → List D → Bool
  | _, [] => true
  | k, d :: ds => ord B k d && ordA B k ds
end
mutual
def blk : D → Nat
  | .str x => x.cps.size
  | .tup ds => blkA ds
  | .lst ds => blkA ds
  | _ => 0
def blkA : List D → Nat
  | [] => 0
  | d :: ds => blk d + 1 + blkA ds
end
mutual
def noDct : D → Bool
  | .dct _ => false
  | .tup ds => noDctA ds
  | .lst ds => noDctA ds
  | _ => true
def noDctA : List D → Bool
  | [] => true
  | d :: ds => noDct d && noDctA ds
end
theorem ordA_iff {B k : Nat} : ∀ {ds : List D}, ordA B k ds = true ↔ ∀ d ∈ ds, ord B k d = true
  | [] => by simp [ordA]
  | d :: ds => by simp [ordA, ordA_iff (ds := ds)]
theorem noDctA_iff : ∀ {ds : List D}, noDctA ds = true ↔ ∀ d ∈ ds, noDct d = true
  | [] => by simp [noDctA]
  | d :: ds => by simp [noDctA, noDctA_iff (ds := ds)]
theorem blkA_app : ∀ {a b : List D}, blkA (a ++ b) = blkA a + blkA b
  | [], b => by simp [blkA]
  | d :: ds, b => by simp only [List.cons_append, blkA, blkA_app (a := ds)]; omega
theorem blkA_take : ∀ {a : List D} (n : Nat), blkA (a.take n) ≤ blkA a
  | a, n => by
    have := blkA_app (a := a.take n) (b := a.drop n)
    rw [List.take_append_drop] at this
    omega
theorem blkA_drop : ∀ {a : List D} (n : Nat), blkA (a.drop n) ≤ blkA a
  | a, n => by
    have := blkA_app (a := a.take n) (b := a.drop n)
    rw [List.take_append_drop] at this
    omega
theorem blkA_rev : ∀ {a : List D}, blkA a.reverse = blkA a
  | [] => rfl
  | d :: ds => by simp only [List.reverse_cons, blkA_app, blkA_rev (a := ds), blkA]; omega
theorem blkA_mem : ∀ {a : List D} {d : D}, d ∈ a → blk d < blkA a
  | _ :: _, _, .head _ => by simp only [blkA]; omega
  | _ :: ds, _, .tail _ h => by
    have := blkA_mem h
    simp only [blkA]
    omega
theorem blkA_len : ∀ {a : List D}, a.length ≤ blkA a
  | [] => Nat.le_refl 0
  | d :: ds => by
    have := blkA_len (a := ds)
    simp only [blkA, List.length_cons]
    omega
theorem blkA_le {n : Nat} : ∀ {a : List D}, (∀ d ∈ a, blk d ≤ n) → blkA a ≤ (n + 1) * a.length
  | [], _ => by simp [blkA]
  | d :: ds, h => by
    have h1 := h d (List.mem_cons_self ..)
    have h2 := blkA_le (a := ds) fun x m => h x (List.mem_cons_of_mem _ m)
    simp only [blkA, List.length_cons, Nat.mul_add, Nat.mul_one]
    omega
mutual
theorem ord_mono {B B' : Nat} (hB : B ≤ B') : ∀ {k k' : Nat} {d : D}, k ≤ k' → ord B k d = true → ord B' k' d = true
  | k, k', .non, _, _ => by unfold ord; rfl
  | k, k', .bl b, _, _ => by unfold ord; rfl
  | k, k', .int i, _, h => by
    unfold ord at h ⊢
    have := of_decide_eq_true h
    exact decide_eq_true (by omega)
  | k, k', .str x, _, h => by
    unfold ord at h ⊢
    exact h
  | 0, _, .dct x, _, h => by simp [ord] at h
  | k + 1, 0, .dct x, hk, h => by omega
  | k + 1, k' + 1, .dct x, _, h => by
    unfold ord at h ⊢
    exact h
  | 0, _, .tup ds, _, h => by simp [ord] at h
  | 0, _, .lst ds, _, h => by simp [ord] at h
  | k + 1, 0, .tup ds, hk, h => by omega
  | k + 1, 0, .lst ds, hk, h => by omega
  | k + 1, k' + 1, .tup ds, hk, h => by
    unfold ord at h ⊢
    exact ordA_mono hB (by omega) h
  | k + 1, k' + 1, .lst ds, hk, h => by
    unfold ord at h ⊢
    exact ordA_mono hB (by omega) h
  | k, k', .obj c fs, _, h => by simp [ord] at h
  | k, k', .ty c, _, h => by simp [ord] at h
  | k, k', .hnd c, _, h => by simp [ord] at h
theorem ordA_mono {B B' : Nat} (hB : B ≤ B') : ∀ {k k' : Nat} {d : List D}, k ≤ k' → ordA B k d = true → ordA B' k' d = true
  | k, k', [], _, _ => by unfold ordA; rfl
  | k, k', d :: ds, hk, h => by
    unfold ordA at h ⊢
    rw [Bool.and_eq_true] at h ⊢
    exact ⟨ord_mono hB hk h.1, ordA_mono hB hk h.2⟩
end
/-! ### repr -/
mutual
theorem ord_tame {B : Nat} (hB : B < 10 ^ 60) : ∀ {k : Nat} {d : D}, ord B k d = true → ∃ p, pq d = some p ∧ p.showable = true ∧ p.depth ≤ k ∧ p.leavesShort 70 = true ∧ p.bulk = blk d
  | k, .non, _ => ⟨.none, by simp [pq], by simp [PyData.showable], by simp [PyData.depth], by simp [PyData.leavesShort], by simp [PyData.bulk, blk]⟩
  | k, .bl b, _ => ⟨.bool b, by simp [pq], by simp [PyData.showable], by simp [PyData.depth], by simp [PyData.leavesShort], by simp [PyData.bulk, blk]⟩
  | k, .int i, h => by
    unfold ord at h
    have h1 := of_decide_eq_true h
    have t := tame_int (i := i) (by omega)
    exact ⟨.int i, by simp [pq], t.sh, by have := t.dp; omega, t.lv, by simp [PyData.bulk, blk]⟩
  | k, .str x, h => by
    unfold ord at h
    exact ⟨.str x, by simp [pq], by simp [PyData.showable], by simp [PyData.depth], by simpa only [PyData.leavesShort] using h, by simp [PyData.bulk, blk]⟩
  | 0, .dct [], h => by simp [ord] at h
  | k + 1, .dct [], h => ⟨.dict [], by simp [pq], by simp [PyData.showable, PyData.showableKv], by simp [PyData.depth, PyData.depthKv], by simp [PyData.leavesShort, PyData.leavesShortKv], by simp [PyData.bulk, PyData.bulkKv, blk]⟩
  | 0, .dct (_ :: _), h => by simp [ord] at h
  | k + 1, .dct (_ :: _), h => by simp [ord] at h
  | 0, .tup ds, h => by simp [ord] at h
  | 0, .lst ds, h => by simp [ord] at h
  | k + 1, .tup ds, h => by
    unfold ord at h
    obtain ⟨p, e, h1, h2, h3, h4⟩ := ordA_tame hB h
    exact ⟨.tuple p, by simp [pq, e], by simpa only [PyData.showable] using h1, by simp only [PyData.depth]; omega, by simpa only [PyData.leavesShort] using h3, by simpa only [PyData.bulk, blk] using h4⟩
  | k + 1, .lst ds, h => by
    unfold ord at h
    obtain ⟨p, e, h1, h2, h3, h4⟩ := ordA_tame hB h
    exact ⟨.list p, by simp [pq, e], by simpa only [PyData.showable] using h1, by simp only [PyData.depth]; omega, by simpa only [PyData.leavesShort] using h3, by simpa only [PyData.bulk, blk] using h4⟩
  | k, .obj c fs, h => by simp [ord] at h
  | k, .ty c, h => by simp [ord] at h
  | k, .hnd c, h => by simp [ord] at h
theorem ordA_tame {B : Nat} (hB : B < 10 ^ 60) : ∀ {k : Nat} {d : List D}, ordA B k d = true → ∃ p, pqs d = some p ∧ PyData.showableAll p = true ∧ PyData.depthAll p ≤ k ∧ PyData.leavesShortAll 70 p = true ∧ PyData.bulkAll p = blkA d
  | k, [], _ => ⟨[], by simp [pqs], by simp [PyData.showableAll], by simp [PyData.depthAll], by simp [PyData.leavesShortAll], by simp [PyData.bulkAll, blkA]⟩
  | k, d :: ds, h => by
    unfold ordA at h
    rw [Bool.and_eq_true] at h
    obtain ⟨p, e, h1, h2, h3, h4⟩ := ord_tame hB h.1
    obtain ⟨ps, es, k1, k2, k3, k4⟩ := ordA_tame hB h.2
    refine ⟨p :: ps, by simp [pqs, e, es], by simp [PyData.showableAll, h1, k1], by simp only [PyData.depthAll]; omega, by simp [PyData.leavesShortAll, h3, k3], ?_⟩
    simp only [PyData.bulkAll, blkA]
    omega
end
theorem repr_lst {B k : Nat} {ds : List D} (h : ordA B k ds = true) (hB : B < 10 ^ 60) (hk : k < 60) (hb : blkA ds ≤ 200000) : ∃ s, reprD [.lst ds] = some (.str s, false) := by
  obtain ⟨p, e, h1, h2, h3, h4⟩ := ordA_tame hB h
  have e1 : pq (.lst ds) = some (.list p) := by simp [pq, e]
  have t : Tame 60 200000 (.list p) := ⟨by simpa only [PyData.showable] using h1, by simp only [PyData.depth]; omega, by simpa only [PyData.leavesShort] using h3, by simp only [PyData.bulk]; omega⟩
  refine ⟨(PyData.list p).shown, ?_⟩
  unfold reprD
  simp only [e1]
  exact if_pos ⟨rfl, t.shown_ok (by decide) (by decide)⟩
theorem ofString_small (s : String) : ((Str.ofString s).cps.toList.all fun c => decide (c < 16 ^ 8)) = true := by
  rw [Str.ofString_eq_toList]
  simp only [List.all_eq_true]
  intro c hc
  have hc : c ∈ s.toList.map Char.toNat := by simpa using hc
  obtain ⟨x, _, rfl⟩ := List.mem_map.mp hc
  have h := x.valid
  have : x.toNat < 1114112 := by
    rcases h with h | h
    · exact Nat.lt_of_lt_of_le h (by decide)
    · exact h.2
  exact decide_eq_true (Nat.lt_of_lt_of_le this (by decide))
end FD

/-! L2: what all laws draw with: one of some, odd values, bent values, what is the same. -/
namespace FD
open PySem PySem.Spec PyProof.Rows L2
noncomputable def fb_q_one : SF DS := (retF (binF ixD (varF 1) (ucallF FF_q_next (consA (varF 0) (consA (callF lenD (consA (varF 1) nilA)) nilA)))))
noncomputable def FF_q_one : FF DS := runF 2 2 fb_q_one
theorem len_q_one {ds : List D} {t : DS} {o : FOut × DS} (h : FF_q_one ds t = some o) : ds.length = 2 := runF_len h

noncomputable def fb_q_whole : SF DS := (retF (andF (callF isiD (consA (varF 0) (consA (conF (.ty "int")) nilA))) (notF (callF isiD (consA (varF 0) (consA (conF (.ty "bool")) nilA))))))
noncomputable def FF_q_whole : FF DS := runF 1 1 fb_q_whole
theorem len_q_whole {ds : List D} {t : DS} {o : FOut × DS} (h : FF_q_whole ds t = some o) : ds.length = 1 := runF_len h

noncomputable def fb_q_same (rec : FF DS) : SF DS := (seqF (ifF (callF isiD (consA (varF 1) (consA (tupF (consA (conF (.ty "tuple")) (consA (conF (.ty "list")) nilA))) nilA))) (seqF (ifF (binF neD (callF isiD (consA (varF 0) (consA (conF (.ty "tuple")) nilA))) (callF isiD (consA (varF 1) (consA (conF (.ty "tuple")) nilA)))) (retF (conF (.bl false))) nxF)
  (seqF (ifF (binF neD (callF isiD (consA (varF 0) (consA (conF (.ty "list")) nilA))) (callF isiD (consA (varF 1) (consA (conF (.ty "list")) nilA)))) (retF (conF (.bl false))) nxF)
  (seqF (ifF (binF neD (callF lenD (consA (varF 0) nilA)) (callF lenD (consA (varF 1) nilA))) (retF (conF (.bl false))) nxF)
  (retF (binF eqD (lcF [0, 1] [2] (callI rng1D (consA (callF lenD (consA (varF 1) nilA)) nilA)) (nameG 2) (notF (ucallF rec (consA (binF ixD (varF 0) (varF 2)) (consA (binF ixD (varF 1) (varF 2)) nilA)))) (varF 2)) (lstF nilA)))))) nxF)
  (seqF (ifF (callF isiD (consA (varF 1) (consA (conF (.ty "dict")) nilA))) (retF (andF (callF isiD (consA (varF 0) (consA (conF (.ty "dict")) nilA))) (binF eqD (varF 0) (varF 1)))) nxF)
  (seqF (ifF (binF isD (varF 1) (conF .non)) (retF (binF isD (varF 0) (conF .non))) nxF)
  (seqF (ifF (callF isiD (consA (varF 1) (consA (conF (.ty "str")) nilA))) (retF (andF (callF isiD (consA (varF 0) (consA (conF (.ty "str")) nilA))) (binF eqD (varF 0) (varF 1)))) nxF)
  (retF (andF (callF isiD (consA (varF 0) (consA (conF (.ty "int")) nilA))) (andF (binF eqD (callF isiD (consA (varF 0) (consA (conF (.ty "bool")) nilA))) (callF isiD (consA (varF 1) (consA (conF (.ty "bool")) nilA)))) (binF eqD (varF 0) (varF 1)))))))))
noncomputable def FFr_q_same : Nat → FF DS
  | 0 => fun _ _ => none
  | k + 1 => runF 3 2 (fb_q_same (FFr_q_same k))
theorem lenr_q_same : ∀ {k : Nat} {ds : List D} {t : DS} {o : FOut × DS}, FFr_q_same k ds t = some o → ds.length = 2
  | 0, _, _, _, h => by cases h
  | _ + 1, _, _, _, h => runF_len h
noncomputable def FF_q_same : FF DS := FFr_q_same 12
theorem len_q_same {ds : List D} {t : DS} {o : FOut × DS} (h : FF_q_same ds t = some o) : ds.length = 2 := lenr_q_same h

noncomputable def fb_q_odd : SF DS := (seqF (setF 1 (lstF (consA (conF .non) (consA (conF (.bl true)) (consA (conF (.bl false)) (consA (conF (.int 0)) (consA (conF (.int 1)) (consA (unF negD (conF (.int 1))) (consA (conF (.int 2)) (consA (conF (.int 6)) (consA (conF (.int 8)) (consA (binF powD (conF (.int 10)) (conF (.int 12))) (consA (binF addD (binF powD (conF (.int 10)) (conF (.int 12))) (conF (.int 1))) (consA (binF powD (conF (.int 10)) (conF (.int 59))) (consA (conF (.str (Str.ofString ""))) (consA (conF (.str (Str.ofString "0"))) (consA (conF (.str (Str.ofString "group"))) (consA (tupF nilA) (consA (tupF (consA (conF (.int 0)) nilA)) nilA)))))))))))))))))))
  (retF (binF ixD (binF addD (varF 1) (lstF (consA (tupF (consA (conF (.int 0)) (consA (conF (.int 1)) nilA))) (consA (lstF nilA) (consA dct0F (consA (lstF (consA (conF (.int 0)) nilA)) (consA (tupF (consA (conF (.bl true)) nilA)) (consA (tupF (consA (tupF nilA) nilA)) nilA)))))))) (ucallF FF_q_next (consA (varF 0) (consA (conF (.int 23)) nilA))))))
noncomputable def FF_q_odd : FF DS := runF 2 1 fb_q_odd
theorem len_q_odd {ds : List D} {t : DS} {o : FOut × DS} (h : FF_q_odd ds t = some o) : ds.length = 1 := runF_len h

noncomputable def fb_q_great : SF DS := (retF (binF ixD (lstF (consA (conF (.int 1)) (consA (conF (.int 2)) (consA (conF (.int 4)) (consA (binF powD (conF (.int 10)) (conF (.int 11))) nilA))))) (ucallF FF_q_next (consA (varF 0) (consA (conF (.int 4)) nilA)))))
noncomputable def FF_q_great : FF DS := runF 1 1 fb_q_great
theorem len_q_great {ds : List D} {t : DS} {o : FOut × DS} (h : FF_q_great ds t = some o) : ds.length = 1 := runF_len h

noncomputable def fb_q_bent (rec : FF DS) : SF DS := (seqF (ifF (andF (callF isiD (consA (varF 1) (consA (conF (.ty "tuple")) nilA))) (andF (binF neD (varF 1) (tupF nilA)) (andF (binF gtD (varF 2) (conF (.int 0))) (binF gtD (ucallF FF_q_next (consA (varF 0) (consA (conF (.int 4)) nilA))) (conF (.int 0)))))) (seqF (setF 3 (ucallF FF_q_next (consA (varF 0) (consA (callF lenD (consA (varF 1) nilA)) nilA))))
  (retF (binF addD (binF addD (slF false true (varF 1) (conF .non) (varF 3)) (tupF (consA (ucallF rec (consA (varF 0) (consA (binF ixD (varF 1) (varF 3)) (consA (binF subD (varF 2) (conF (.int 1))) nilA)))) nilA))) (slF true false (varF 1) (binF addD (varF 3) (conF (.int 1))) (conF .non))))) nxF)
  (seqF (ifF (callF isiD (consA (varF 1) (consA (conF (.ty "tuple")) nilA))) (retF (binF ixD (lstF (consA (slF true false (varF 1) (conF (.int 1)) (conF .non)) (consA (binF addD (varF 1) (slF true false (varF 1) (unF negD (conF (.int 1))) (conF .non))) (consA (revF (varF 1)) (consA (callF listD (consA (varF 1) nilA)) (consA (ucallF FF_q_odd (consA (varF 0) nilA)) nilA)))))) (ucallF FF_q_next (consA (varF 0) (consA (conF (.int 5)) nilA))))) nxF)
  (seqF (ifF (callF isiD (consA (varF 1) (consA (conF (.ty "int")) nilA))) (retF (binF ixD (lstF (consA (binF addD (varF 1) (conF (.int 1))) (consA (binF subD (varF 1) (conF (.int 1))) (consA (callF strD (consA (varF 1) nilA)) (consA (binF eqD (varF 1) (conF (.int 1))) (consA (conF (.int 0)) (consA (ucallF FF_q_odd (consA (varF 0) nilA)) nilA))))))) (ucallF FF_q_next (consA (varF 0) (consA (conF (.int 6)) nilA))))) nxF)
  (retF (ucallF FF_q_odd (consA (varF 0) nilA))))))
noncomputable def FFr_q_bent : Nat → FF DS
  | 0 => fun _ _ => none
  | k + 1 => runF 4 3 (fb_q_bent (FFr_q_bent k))
theorem lenr_q_bent : ∀ {k : Nat} {ds : List D} {t : DS} {o : FOut × DS}, FFr_q_bent k ds t = some o → ds.length = 3
  | 0, _, _, _, h => by cases h
  | _ + 1, _, _, _, h => runF_len h
noncomputable def FF_q_bent : FF DS := FFr_q_bent 12
theorem len_q_bent {ds : List D} {t : DS} {o : FOut × DS} (h : FF_q_bent ds t = some o) : ds.length = 3 := lenr_q_bent h

theorem atI_ex {ds : List D} {i : Int} (h0 : 0 ≤ i) (h1 : i < ds.length) : ∃ d ∈ ds, atI ds i = some d := by
  obtain ⟨k, rfl⟩ := Int.eq_ofNat_of_zero_le h0
  have hk : k < ds.length := by omega
  exact ⟨ds[k], List.getElem_mem hk, atI_nat (List.getElem?_eq_getElem hk)⟩
theorem one_eq {ds : List D} {t : DS} {n : Nat} {d : D} (h1 : 0 < ds.length) (h2 : (ds.length : Int) < 2 ^ 64) (h3 : t.c < 2 ^ 40) (e : atI ds (t.draw ds.length) = some d) : FF_q_one [.hnd n, .lst ds] t = some (.ok d false, t.step ds.length) := by
  unfold FF_q_one fb_q_one
  simp only [fdA, List.map_cons, List.map_nil, List.length_cons, List.length_nil, List.cons_append, List.nil_append, List.replicate_succ, List.replicate_zero, Nat.zero_add, Nat.reduceAdd, Nat.reduceSub, Nat.sub_self, if_true, if_false, Bool.false_eq_true, Bool.not_true, Bool.not_false, reduceCtorEq, ite_true, ite_false, List.getElem?_cons_zero, List.getElem?_cons_succ, List.set_cons_zero, List.set_cons_succ, LEN, Nat.reduceLeDiff, Option.map_some, fvA, List.length_map, List.length_set, decide_true, decide_false, next_eq (n := n) (t := t) (m := ds.length) (by omega) h2 h3, v_ix_l e]
theorem v_pow12 : powD (.int 10) (.int 12) = some (.int 1000000000000, false) := by
  unfold powD
  exact if_pos (by decide)
theorem v_pow11 : powD (.int 10) (.int 11) = some (.int 100000000000, false) := by
  unfold powD
  exact if_pos (by decide)
theorem v_pow59 : powD (.int 10) (.int 59) = some (.int 100000000000000000000000000000000000000000000000000000000000, false) := by
  unfold powD
  exact if_pos (by decide)
theorem v_cat {a b : List D} (h : a.length + b.length ≤ LEN) : addD (.lst a) (.lst b) = some (.lst (a ++ b), true) := if_pos h
theorem v_catT {a b : List D} (h : a.length + b.length ≤ LEN) : addD (.tup a) (.tup b) = some (.tup (a ++ b), false) := if_pos h
theorem v_neg {i : Int} : negD (.int i) = some (.int (-i), false) := (rfl)
theorem great_ok {n : Nat} {t : DS} (hc : t.c < 2 ^ 40) : ∃ g, FF_q_great [.hnd n] t = some (.ok (.int g) false, t.step 4) ∧ 0 < g ∧ g ≤ 100000000000 := by
  have a0 := t.draw_in (m := 4) (by decide)
  obtain ⟨d, hd, e⟩ := atI_ex (ds := [.int 1, .int 2, .int 4, .int 100000000000]) (i := t.draw 4) a0.1 a0.2
  have : ∃ g : Int, d = .int g ∧ 0 < g ∧ g ≤ 100000000000 := by
    simp only [List.mem_cons, List.not_mem_nil, or_false] at hd
    rcases hd with rfl | rfl | rfl | rfl <;> exact ⟨_, rfl, by decide, by decide⟩
  obtain ⟨g, rfl, g1, g2⟩ := this
  refine ⟨g, ?_, g1, g2⟩
  unfold FF_q_great fb_q_great
  simp only [fdA, List.map_cons, List.map_nil, List.length_cons, List.length_nil, List.cons_append, List.nil_append, List.replicate_succ, List.replicate_zero, Nat.zero_add, Nat.reduceAdd, Nat.reduceSub, Nat.sub_self, if_true, if_false, Bool.false_eq_true, Bool.not_true, Bool.not_false, reduceCtorEq, ite_true, ite_false, List.getElem?_cons_zero, List.getElem?_cons_succ, List.set_cons_zero, List.set_cons_succ, LEN, Nat.reduceLeDiff, Option.map_some, fvA, List.length_map, List.length_set, decide_true, decide_false, next_eq (n := n) (t := t) (m := 4) (by decide) (by decide) hc, v_pow11, v_ix_l e]
def oddL : List D := [.non, .bl true, .bl false, .int 0, .int 1, .int (-1), .int 2, .int 6, .int 8, .int 1000000000000, .int (1000000000000 + 1), .int 100000000000000000000000000000000000000000000000000000000000, .str (Str.ofString ""), .str (Str.ofString "0"), .str (Str.ofString "group"), .tup [], .tup [.int 0], .tup [.int 0, .int 1], .lst [], .dct [], .lst [.int 0], .tup [.bl true], .tup [.tup []]]
theorem odd_eq {n : Nat} {t : DS} {d : D} (hc : t.c < 2 ^ 40) (e : atI oddL (t.draw 23) = some d) : FF_q_odd [.hnd n] t = some (.ok d false, t.step 23) := by
  unfold oddL at e
  unfold FF_q_odd fb_q_odd
  simp only [fdA, List.map_cons, List.map_nil, List.length_cons, List.length_nil, List.cons_append, List.nil_append, List.replicate_succ, List.replicate_zero, Nat.zero_add, Nat.reduceAdd, Nat.reduceSub, Nat.sub_self, if_true, if_false, Bool.false_eq_true, Bool.not_true, Bool.not_false, reduceCtorEq, ite_true, ite_false, List.getElem?_cons_zero, List.getElem?_cons_succ, List.set_cons_zero, List.set_cons_succ, LEN, Nat.reduceLeDiff, Option.map_some, fvA, List.length_map, List.length_set, decide_true, decide_false, next_eq (n := n) (t := t) (m := 23) (by decide) (by decide) hc, v_pow12, v_pow59, v_neg, q_dct0, v_cat, v_ix_l e]
theorem oddL_ok : ∀ d ∈ oddL, ord (10 ^ 59) 2 d = true ∧ blk d ≤ 20 := by
  have h : (oddL.all fun d => ord (10 ^ 59) 2 d && decide (blk d ≤ 20)) = true := by decide +kernel
  intro d m
  have := List.all_eq_true.mp h d m
  simpa using this
theorem odd_ok {n : Nat} {t : DS} (hc : t.c < 2 ^ 40) : ∃ d, FF_q_odd [.hnd n] t = some (.ok d false, t.step 23) ∧ ord (10 ^ 59) 2 d = true ∧ blk d ≤ 20 := by
  have a0 := t.draw_in (m := 23) (by decide)
  obtain ⟨d, hd, e⟩ := atI_ex (ds := oddL) (i := t.draw 23) a0.1 a0.2
  exact ⟨d, odd_eq hc e, oddL_ok d hd⟩
/-! ### the same -/
theorem rngL_nat (n : Nat) : rngL 0 (n : Int) = (List.range n).map fun (k : Nat) => D.int (k : Int) := by
  unfold rngL
  simp
theorem filter_no {A : Type} : ∀ as : List A, as.filter (fun _ => false) = []
  | [] => rfl
  | _ :: as => filter_no as
theorem eq_nil_nil : eqD (.lst []) (.lst []) = some (.bl true, false) := v_eq_nil (a := []) (by simp [okAll])
theorem same_refl : ∀ (k : Nat) {B : Nat} {d : D} {t : DS}, ord B k d = true → noDct d = true → blk d ≤ 100000 → ∀ {j : Nat}, k < j → FFr_q_same j [d, d] t = some (.ok (.bl true) false, t) := by
  intro k
  induction k with
  | zero =>
    intro B d t h1 h2 h3 j hj
    obtain ⟨j, rfl⟩ : ∃ i, j = i + 1 := ⟨j - 1, by omega⟩
    unfold FFr_q_same fb_q_same
    cases d with
    | non => simp only [fdA, List.map_cons, List.map_nil, List.length_cons, List.length_nil, List.cons_append, List.nil_append, List.replicate_succ, List.replicate_zero, Nat.zero_add, Nat.reduceAdd, Nat.reduceSub, Nat.sub_self, if_true, if_false, Bool.false_eq_true, Bool.not_true, Bool.not_false, reduceCtorEq, ite_true, ite_false, List.getElem?_cons_zero, List.getElem?_cons_succ, List.set_cons_zero, List.set_cons_succ, LEN, Nat.reduceLeDiff, Option.map_some, fvA, List.length_map, List.length_set, decide_true, decide_false]
    | bl b => simp only [fdA, List.map_cons, List.map_nil, List.length_cons, List.length_nil, List.cons_append, List.nil_append, List.replicate_succ, List.replicate_zero, Nat.zero_add, Nat.reduceAdd, Nat.reduceSub, Nat.sub_self, if_true, if_false, Bool.false_eq_true, Bool.not_true, Bool.not_false, reduceCtorEq, ite_true, ite_false, List.getElem?_cons_zero, List.getElem?_cons_succ, List.set_cons_zero, List.set_cons_succ, LEN, Nat.reduceLeDiff, Option.map_some, fvA, List.length_map, List.length_set, decide_true, decide_false]
    | int i => simp only [fdA, List.map_cons, List.map_nil, List.length_cons, List.length_nil, List.cons_append, List.nil_append, List.replicate_succ, List.replicate_zero, Nat.zero_add, Nat.reduceAdd, Nat.reduceSub, Nat.sub_self, if_true, if_false, Bool.false_eq_true, Bool.not_true, Bool.not_false, reduceCtorEq, ite_true, ite_false, List.getElem?_cons_zero, List.getElem?_cons_succ, List.set_cons_zero, List.set_cons_succ, LEN, Nat.reduceLeDiff, Option.map_some, fvA, List.length_map, List.length_set, decide_true, decide_false]
    | str x => simp only [fdA, List.map_cons, List.map_nil, List.length_cons, List.length_nil, List.cons_append, List.nil_append, List.replicate_succ, List.replicate_zero, Nat.zero_add, Nat.reduceAdd, Nat.reduceSub, Nat.sub_self, if_true, if_false, Bool.false_eq_true, Bool.not_true, Bool.not_false, reduceCtorEq, ite_true, ite_false, List.getElem?_cons_zero, List.getElem?_cons_succ, List.set_cons_zero, List.set_cons_succ, LEN, Nat.reduceLeDiff, Option.map_some, fvA, List.length_map, List.length_set, decide_true, decide_false]
    | dct kvs => simp [ord] at h1
    | tup ds => simp [ord] at h1
    | lst ds => simp [ord] at h1
    | obj c fs => simp [ord] at h1
    | ty c => simp [ord] at h1
    | hnd c => simp [ord] at h1
  | succ k ih =>
    intro B d t h1 h2 h3 j hj
    obtain ⟨j, rfl⟩ : ∃ i, j = i + 1 := ⟨j - 1, by omega⟩
    have list : ∀ ds : List D, ordA B k ds = true → noDctA ds = true → blkA ds ≤ 100000 → (∀ i : Nat, i < ds.length → ∃ d, atI ds (i : Int) = some d ∧ FFr_q_same j [d, d] t = some (.ok (.bl true) false, t)) ∧ ds.length ≤ 100000 := fun ds o1 o2 o3 => by
      refine ⟨fun i hi => ⟨ds[i], atI_nat (List.getElem?_eq_getElem hi), ?_⟩, Nat.le_trans blkA_len o3⟩
      have m := List.getElem_mem hi
      have := blkA_mem m
      exact ih (ordA_iff.mp o1 _ m) (noDctA_iff.mp o2 _ m) (by omega) (by omega)
    cases d with
    | non => unfold FFr_q_same fb_q_same; simp only [fdA, List.map_cons, List.map_nil, List.length_cons, List.length_nil, List.cons_append, List.nil_append, List.replicate_succ, List.replicate_zero, Nat.zero_add, Nat.reduceAdd, Nat.reduceSub, Nat.sub_self, if_true, if_false, Bool.false_eq_true, Bool.not_true, Bool.not_false, reduceCtorEq, ite_true, ite_false, List.getElem?_cons_zero, List.getElem?_cons_succ, List.set_cons_zero, List.set_cons_succ, LEN, Nat.reduceLeDiff, Option.map_some, fvA, List.length_map, List.length_set, decide_true, decide_false]
    | bl b => unfold FFr_q_same fb_q_same; simp only [fdA, List.map_cons, List.map_nil, List.length_cons, List.length_nil, List.cons_append, List.nil_append, List.replicate_succ, List.replicate_zero, Nat.zero_add, Nat.reduceAdd, Nat.reduceSub, Nat.sub_self, if_true, if_false, Bool.false_eq_true, Bool.not_true, Bool.not_false, reduceCtorEq, ite_true, ite_false, List.getElem?_cons_zero, List.getElem?_cons_succ, List.set_cons_zero, List.set_cons_succ, LEN, Nat.reduceLeDiff, Option.map_some, fvA, List.length_map, List.length_set, decide_true, decide_false]
    | int i => unfold FFr_q_same fb_q_same; simp only [fdA, List.map_cons, List.map_nil, List.length_cons, List.length_nil, List.cons_append, List.nil_append, List.replicate_succ, List.replicate_zero, Nat.zero_add, Nat.reduceAdd, Nat.reduceSub, Nat.sub_self, if_true, if_false, Bool.false_eq_true, Bool.not_true, Bool.not_false, reduceCtorEq, ite_true, ite_false, List.getElem?_cons_zero, List.getElem?_cons_succ, List.set_cons_zero, List.set_cons_succ, LEN, Nat.reduceLeDiff, Option.map_some, fvA, List.length_map, List.length_set, decide_true, decide_false]
    | str x => unfold FFr_q_same fb_q_same; simp only [fdA, List.map_cons, List.map_nil, List.length_cons, List.length_nil, List.cons_append, List.nil_append, List.replicate_succ, List.replicate_zero, Nat.zero_add, Nat.reduceAdd, Nat.reduceSub, Nat.sub_self, if_true, if_false, Bool.false_eq_true, Bool.not_true, Bool.not_false, reduceCtorEq, ite_true, ite_false, List.getElem?_cons_zero, List.getElem?_cons_succ, List.set_cons_zero, List.set_cons_succ, LEN, Nat.reduceLeDiff, Option.map_some, fvA, List.length_map, List.length_set, decide_true, decide_false]
    | dct kvs => simp [noDct] at h2
    | tup ds =>
      simp only [ord, noDct, blk] at h1 h2 h3
      obtain ⟨l1, l2⟩ := list ds h1 h2 h3
      refine w_eq ?_
      unfold FFr_q_same fb_q_same
      simp only [fdA, List.map_cons, List.map_nil, List.length_cons, List.length_nil, List.cons_append, List.nil_append, List.replicate_succ, List.replicate_zero, Nat.zero_add, Nat.reduceAdd, Nat.reduceSub, Nat.sub_self, if_true, if_false, Bool.false_eq_true, Bool.not_true, Bool.not_false, reduceCtorEq, ite_true, ite_false, List.getElem?_cons_zero, List.getElem?_cons_succ, List.set_cons_zero, List.set_cons_succ, LEN, Nat.reduceLeDiff, Option.map_some, fvA, List.length_map, List.length_set, decide_true, decide_false, fhA, List.mem_cons, List.not_mem_nil, or_false, or_true, Nat.reduceEqDiff, Nat.succ_ne_self, fxA, fwA, fyA, and_true, true_and, imp_self, true_imp_iff, false_imp_iff, implies_true, v_rng1 (j := (ds.length : Int)) (small_of (by omega))]
      refine ⟨by rw [rngL_len]; omega, w_fm (List.range ds.length) (fun (k : Nat) => D.int (k : Int)) (rngL_nat _) (fun _ => false) (fun _ => .non) (fun i hi => ?_) ?_⟩
      · obtain ⟨d, e1, e2⟩ := l1 i (List.mem_range.mp hi)
        simp only [fdA, List.map_cons, List.map_nil, List.length_cons, List.length_nil, List.cons_append, List.nil_append, List.replicate_succ, List.replicate_zero, Nat.zero_add, Nat.reduceAdd, Nat.reduceSub, Nat.sub_self, if_true, if_false, Bool.false_eq_true, Bool.not_true, Bool.not_false, reduceCtorEq, ite_true, ite_false, List.getElem?_cons_zero, List.getElem?_cons_succ, List.set_cons_zero, List.set_cons_succ, LEN, Nat.reduceLeDiff, Option.map_some, fvA, List.length_map, List.length_set, decide_true, decide_false, fhA, List.mem_cons, List.not_mem_nil, or_false, or_true, Nat.reduceEqDiff, Nat.succ_ne_self, fxA, fwA, fyA, and_true, true_and, imp_self, true_imp_iff, false_imp_iff, implies_true, v_ix_t e1, e2]
      · rw [filter_no]
        simp only [List.map_nil]
        simp only [fdA, List.map_cons, List.map_nil, List.length_cons, List.length_nil, List.cons_append, List.nil_append, List.replicate_succ, List.replicate_zero, Nat.zero_add, Nat.reduceAdd, Nat.reduceSub, Nat.sub_self, if_true, if_false, Bool.false_eq_true, Bool.not_true, Bool.not_false, reduceCtorEq, ite_true, ite_false, List.getElem?_cons_zero, List.getElem?_cons_succ, List.set_cons_zero, List.set_cons_succ, LEN, Nat.reduceLeDiff, Option.map_some, fvA, List.length_map, List.length_set, decide_true, decide_false, fhA, List.mem_cons, List.not_mem_nil, or_false, or_true, Nat.reduceEqDiff, Nat.succ_ne_self, fxA, fwA, fyA, and_true, true_and, imp_self, true_imp_iff, false_imp_iff, implies_true, eq_nil_nil]
    | lst ds =>
      simp only [ord, noDct, blk] at h1 h2 h3
      obtain ⟨l1, l2⟩ := list ds h1 h2 h3
      refine w_eq ?_
      unfold FFr_q_same fb_q_same
      simp only [fdA, List.map_cons, List.map_nil, List.length_cons, List.length_nil, List.cons_append, List.nil_append, List.replicate_succ, List.replicate_zero, Nat.zero_add, Nat.reduceAdd, Nat.reduceSub, Nat.sub_self, if_true, if_false, Bool.false_eq_true, Bool.not_true, Bool.not_false, reduceCtorEq, ite_true, ite_false, List.getElem?_cons_zero, List.getElem?_cons_succ, List.set_cons_zero, List.set_cons_succ, LEN, Nat.reduceLeDiff, Option.map_some, fvA, List.length_map, List.length_set, decide_true, decide_false, fhA, List.mem_cons, List.not_mem_nil, or_false, or_true, Nat.reduceEqDiff, Nat.succ_ne_self, fxA, fwA, fyA, and_true, true_and, imp_self, true_imp_iff, false_imp_iff, implies_true, v_rng1 (j := (ds.length : Int)) (small_of (by omega))]
      refine ⟨by rw [rngL_len]; omega, w_fm (List.range ds.length) (fun (k : Nat) => D.int (k : Int)) (rngL_nat _) (fun _ => false) (fun _ => .non) (fun i hi => ?_) ?_⟩
      · obtain ⟨d, e1, e2⟩ := l1 i (List.mem_range.mp hi)
        simp only [fdA, List.map_cons, List.map_nil, List.length_cons, List.length_nil, List.cons_append, List.nil_append, List.replicate_succ, List.replicate_zero, Nat.zero_add, Nat.reduceAdd, Nat.reduceSub, Nat.sub_self, if_true, if_false, Bool.false_eq_true, Bool.not_true, Bool.not_false, reduceCtorEq, ite_true, ite_false, List.getElem?_cons_zero, List.getElem?_cons_succ, List.set_cons_zero, List.set_cons_succ, LEN, Nat.reduceLeDiff, Option.map_some, fvA, List.length_map, List.length_set, decide_true, decide_false, fhA, List.mem_cons, List.not_mem_nil, or_false, or_true, Nat.reduceEqDiff, Nat.succ_ne_self, fxA, fwA, fyA, and_true, true_and, imp_self, true_imp_iff, false_imp_iff, implies_true, v_ix_l e1, e2]
      · rw [filter_no]
        simp only [List.map_nil]
        simp only [fdA, List.map_cons, List.map_nil, List.length_cons, List.length_nil, List.cons_append, List.nil_append, List.replicate_succ, List.replicate_zero, Nat.zero_add, Nat.reduceAdd, Nat.reduceSub, Nat.sub_self, if_true, if_false, Bool.false_eq_true, Bool.not_true, Bool.not_false, reduceCtorEq, ite_true, ite_false, List.getElem?_cons_zero, List.getElem?_cons_succ, List.set_cons_zero, List.set_cons_succ, LEN, Nat.reduceLeDiff, Option.map_some, fvA, List.length_map, List.length_set, decide_true, decide_false, fhA, List.mem_cons, List.not_mem_nil, or_false, or_true, Nat.reduceEqDiff, Nat.succ_ne_self, fxA, fwA, fyA, and_true, true_and, imp_self, true_imp_iff, false_imp_iff, implies_true, eq_nil_nil]
    | obj c fs => simp [ord] at h1
    | ty c => simp [ord] at h1
    | hnd c => simp [ord] at h1
/-! ### bent -/
theorem v_add_bi {a : Bool} {b : Int} : addD (.bl a) (.int b) = some (.int (b2i a + b), false) := (rfl)
theorem v_sub_bi {a : Bool} {b : Int} : subD (.bl a) (.int b) = some (.int (b2i a - b), false) := (rfl)
theorem v_str_b {a : Bool} : strD [.bl a] = some (.str (if a then "True" else "False"), false) := (rfl)
theorem okD_bl {a : Bool} : okD 64 (.bl a) = true := by simp [okD]
theorem okD_int {a : Int} : okD 64 (.int a) = true := by simp [okD]
theorem v_eq_bi {a : Bool} {b : Int} : eqD (.bl a) (.int b) = some (.bl (eqB (.bl a) (.int b)), false) := by
  simp [eqD, okD]
theorem ne_nilT {a : D} {ds : List D} : neD (.tup (a :: ds)) (.tup []) = some (.bl true, false) := by
  show (if okD 64 (.tup (a :: ds)) = true ∧ okD 64 (.tup []) = true then _ else neX _ _) = _
  split
  · simp [eqB, py, pys, PyData.eqv, PyData.eqvAll]
  · rfl
theorem ne_nilT0 : neD (.tup []) (.tup []) = some (.bl false, false) := by
  have h : okD 64 (.tup []) = true := by simp [okD, okAll]
  show (if okD 64 (.tup []) = true ∧ okD 64 (.tup []) = true then some (.bl (!eqB (.tup []) (.tup [])), false) else neX (.tup []) (.tup [])) = _
  rw [if_pos ⟨h, h⟩]
  simp [eqB, py, pys, PyData.eqv, PyData.eqvAll]
theorem ne_nilL {a : List D} : neD (.lst a) (.lst []) = some (.bl (!a.isEmpty), false) := by
  cases a with
  | nil => exact v_ne_nil (a := []) (by simp [okAll])
  | cons x r =>
    show (if okD 64 (.lst (x :: r)) = true ∧ okD 64 (.lst []) = true then _ else neX (.lst (x :: r)) (.lst [])) = _
    split
    · simp [eqB, py, pys, PyData.eqv, PyData.eqvAll]
    · rfl
theorem eq_nilL {a : List D} : eqD (.lst a) (.lst []) = some (.bl a.isEmpty, false) := by
  cases a with
  | nil => exact v_eq_nil (a := []) (by simp [okAll])
  | cons x r =>
    show (if okD 64 (.lst (x :: r)) = true ∧ okD 64 (.lst []) = true then _ else eqX (.lst (x :: r)) (.lst [])) = _
    split
    · simp [eqB, py, pys, PyData.eqv, PyData.eqvAll]
    · rfl
theorem eq_nilT {a : List D} : eqD (.tup a) (.tup []) = some (.bl a.isEmpty, false) := by
  cases a with
  | nil =>
    have h : okD 64 (.tup []) = true := by simp [okD, okAll]
    show (if okD 64 (.tup []) = true ∧ okD 64 (.tup []) = true then some (.bl (eqB (.tup []) (.tup [])), false) else eqX (.tup []) (.tup [])) = _
    rw [if_pos ⟨h, h⟩]
    simp [eqB, py, pys, PyData.eqv, PyData.eqvAll]
  | cons x r =>
    show (if okD 64 (.tup (x :: r)) = true ∧ okD 64 (.tup []) = true then _ else eqX (.tup (x :: r)) (.tup [])) = _
    split
    · simp [eqB, py, pys, PyData.eqv, PyData.eqvAll]
    · rfl
theorem cut_to {A : Type} (xs : List A) (i : Nat) : cutL xs none (some (i : Int)) = xs.take i := by
  unfold cutL sl0 sl1
  rw [HT.sIx_none, HT.sIx_nat]
  simp only [List.drop_zero, Nat.sub_zero]
  rw [List.take_eq_take_iff]
  omega
theorem cut_from {A : Type} (xs : List A) (i : Nat) : cutL xs (some (i : Int)) none = xs.drop i := by
  unfold cutL sl0 sl1
  rw [HT.sIx_none, HT.sIx_nat]
  rcases Nat.le_total i xs.length with h | h
  · rw [Nat.min_eq_left h]
    exact List.take_of_length_le (by simp)
  · rw [Nat.min_eq_right h, List.drop_of_length_le h, List.drop_of_length_le (Nat.le_refl _)]
    simp
theorem cut_ord {B k : Nat} {ds : List D} {lo hi : Option Int} (h : ordA B k ds = true) : ordA B k (cutL ds lo hi) = true := by
  rw [ordA_iff] at h ⊢
  exact fun d m => h d (List.mem_of_mem_drop (List.mem_of_mem_take m))
theorem cut_blk {ds : List D} {lo hi : Option Int} : blkA (cutL ds lo hi) ≤ blkA ds := by
  unfold cutL
  exact Nat.le_trans (blkA_take _) (blkA_drop _)
theorem ordA_app {B k : Nat} {a b : List D} (h1 : ordA B k a = true) (h2 : ordA B k b = true) : ordA B k (a ++ b) = true := by
  rw [ordA_iff] at *
  intro d m
  rcases List.mem_append.mp m with m | m
  · exact h1 d m
  · exact h2 d m
theorem ord_tup {B k : Nat} {ds : List D} (h : ordA B k ds = true) : ord B (k + 1) (.tup ds) = true := by unfold ord; exact h
theorem ord_lst {B k : Nat} {ds : List D} (h : ordA B k ds = true) : ord B (k + 1) (.lst ds) = true := by unfold ord; exact h
theorem ordA_cons {B k : Nat} {d : D} {ds : List D} (h1 : ord B k d = true) (h : ordA B k ds = true) : ordA B k (d :: ds) = true := by unfold ordA; rw [h1, h]; rfl
theorem ordA_nil {B k : Nat} : ordA B k [] = true := by unfold ordA; rfl
theorem str_blk {i : Int} (h : i.natAbs < 10 ^ 60) : blk (.str (Str.ofString (toString i))) ≤ 61 ∧ ∀ B k, ord B k (.str (Str.ofString (toString i))) = true := by
  refine ⟨?_, fun B k => ?_⟩
  · simp only [blk]
    have := PySem.ofString_length (toString i)
    have h2 := int_text_length_le10 (k := 60) (by decide) h
    have e : (Str.ofString (toString i)).cps.size = (Str.ofString (toString i)).length := rfl
    omega
  · unfold ord
    exact ofString_small _
/-- the values that a tuple is bent to -/
theorem bent_tup {B k n : Nat} {ds : List D} {t : DS} (h : ordA B k ds = true) (hk : 1 ≤ k) (hB : 10 ^ 59 ≤ B) (hb : blkA ds ≤ 40000) (hc : t.c + 2 < 2 ^ 40) :
    ∃ o r, FF_q_odd [.hnd n] t = some (.ok o false, t.step 23) ∧ FF_q_next [.hnd n, .int 5] (t.step 23) = some (.ok (.int ((t.step 23).draw 5)) false, (t.step 23).step 5) ∧
      atI [.tup (cutL ds (some 1) none), .tup (ds ++ cutL ds (some (-1)) none), .tup ds.reverse, .lst ds, o] ((t.step 23).draw 5) = some r ∧ ord B (k + 1) r = true ∧ blk r ≤ 2 * blkA ds + 20 ∧ ((t.step 23).step 5).c ≤ t.c + 2 := by
  obtain ⟨o, e1, o1, o2⟩ := odd_ok (n := n) (t := t) (by omega)
  have s1 : (t.step 23).c ≤ t.c + 1 := DS.step_c
  have s2 : ((t.step 23).step 5).c ≤ (t.step 23).c + 1 := DS.step_c
  have a0 := (t.step 23).draw_in (m := 5) (by decide)
  obtain ⟨r, hr, e⟩ := atI_ex (ds := [.tup (cutL ds (some 1) none), .tup (ds ++ cutL ds (some (-1)) none), .tup ds.reverse, .lst ds, o]) (i := (t.step 23).draw 5) a0.1 a0.2
  refine ⟨o, r, e1, next_eq (by decide) (by decide) (by omega), e, ?_, ?_, by omega⟩
  · simp only [List.mem_cons, List.not_mem_nil, or_false] at hr
    rcases hr with rfl | rfl | rfl | rfl | rfl
    · exact ord_tup (cut_ord h)
    · exact ord_tup (ordA_app h (cut_ord h))
    · exact ord_tup (by rw [ordA_iff] at h ⊢; intro d m; exact h d (List.mem_reverse.mp m))
    · exact ord_lst h
    · exact ord_mono hB (by omega) o1
  · simp only [List.mem_cons, List.not_mem_nil, or_false] at hr
    have c1 := cut_blk (ds := ds) (lo := some 1) (hi := none)
    have c2 := cut_blk (ds := ds) (lo := some (-1)) (hi := none)
    rcases hr with rfl | rfl | rfl | rfl | rfl <;> first | omega | (simp only [blk, blkA_app, blkA_rev]; omega)
theorem bent_ok : ∀ (j deep : Nat) {k B n : Nat} {thing : D} {t : DS}, deep < j → ord B k thing = true → 2 ≤ k → 10 ^ 59 ≤ B → B < 10 ^ 60 → blk thing ≤ 40000 → t.c + 3 * (deep + 1) < 2 ^ 40 →
    ∃ r t', FFr_q_bent j [.hnd n, thing, .int (deep : Int)] t = some (.ok r false, t') ∧ ord (B + 1) (k + deep) r = true ∧ blk r ≤ 2 * blk thing + 70 ∧ t'.c ≤ t.c + 3 * (deep + 1) := by
  intro j
  induction j with
  | zero => intro deep _ _ _ _ _ h; omega
  | succ j ih =>
    intro deep k B n thing t hj ho hk hB hB2 hb hc
    -- all that is neither a tuple nor an int
    have other : (∀ r t', FF_q_odd [.hnd n] t = some (.ok r false, t') → FFr_q_bent (j + 1) [.hnd n, thing, .int (deep : Int)] t = some (.ok r false, t')) →
        ∃ r t', FFr_q_bent (j + 1) [.hnd n, thing, .int (deep : Int)] t = some (.ok r false, t') ∧ ord (B + 1) (k + deep) r = true ∧ blk r ≤ 2 * blk thing + 70 ∧ t'.c ≤ t.c + 3 * (deep + 1) := fun h => by
      obtain ⟨o, e1, o1, o2⟩ := odd_ok (n := n) (t := t) (by omega)
      have s1 : (t.step 23).c ≤ t.c + 1 := DS.step_c
      exact ⟨o, _, h _ _ e1, ord_mono (by omega) (by omega) o1, by omega, by omega⟩
    -- ints
    have num : ∀ (x : List D), x.length = 5 → (∀ d ∈ x, ord (B + 1) (k + deep) d = true ∧ blk d ≤ 70) →
        (∀ o r, FF_q_odd [.hnd n] t = some (.ok o false, t.step 23) → FF_q_next [.hnd n, .int 6] (t.step 23) = some (.ok (.int ((t.step 23).draw 6)) false, (t.step 23).step 6) → atI (x ++ [o]) ((t.step 23).draw 6) = some r →
          FFr_q_bent (j + 1) [.hnd n, thing, .int (deep : Int)] t = some (.ok r false, (t.step 23).step 6)) →
        ∃ r t', FFr_q_bent (j + 1) [.hnd n, thing, .int (deep : Int)] t = some (.ok r false, t') ∧ ord (B + 1) (k + deep) r = true ∧ blk r ≤ 2 * blk thing + 70 ∧ t'.c ≤ t.c + 3 * (deep + 1) := fun x hl hx h => by
      obtain ⟨o, e1, o1, o2⟩ := odd_ok (n := n) (t := t) (by omega)
      have s1 : (t.step 23).c ≤ t.c + 1 := DS.step_c
      have s2 : ((t.step 23).step 6).c ≤ (t.step 23).c + 1 := DS.step_c
      have a0 := (t.step 23).draw_in (m := 6) (by decide)
      obtain ⟨r, hr, e⟩ := atI_ex (ds := x ++ [o]) (i := (t.step 23).draw 6) a0.1 (by simp [hl]; omega)
      refine ⟨r, _, h o r e1 (next_eq (by decide) (by decide) (by omega)) e, ?_, ?_, by omega⟩
      · rcases List.mem_append.mp hr with m | m
        · exact (hx r m).1
        · rw [List.mem_singleton] at m
          subst m
          exact ord_mono (by omega) (by omega) o1
      · rcases List.mem_append.mp hr with m | m
        · have := (hx r m).2
          omega
        · rw [List.mem_singleton] at m
          subst m
          omega
    cases thing with
    | non =>
      refine other fun r t' e => ?_
      unfold FFr_q_bent fb_q_bent
      simp only [fdA, List.map_cons, List.map_nil, List.length_cons, List.length_nil, List.cons_append, List.nil_append, List.replicate_succ, List.replicate_zero, Nat.zero_add, Nat.reduceAdd, Nat.reduceSub, Nat.sub_self, if_true, if_false, Bool.false_eq_true, Bool.not_true, Bool.not_false, reduceCtorEq, ite_true, ite_false, List.getElem?_cons_zero, List.getElem?_cons_succ, List.set_cons_zero, List.set_cons_succ, LEN, Nat.reduceLeDiff, Option.map_some, fvA, List.length_map, List.length_set, decide_true, decide_false, e]
    | str x =>
      refine other fun r t' e => ?_
      unfold FFr_q_bent fb_q_bent
      simp only [fdA, List.map_cons, List.map_nil, List.length_cons, List.length_nil, List.cons_append, List.nil_append, List.replicate_succ, List.replicate_zero, Nat.zero_add, Nat.reduceAdd, Nat.reduceSub, Nat.sub_self, if_true, if_false, Bool.false_eq_true, Bool.not_true, Bool.not_false, reduceCtorEq, ite_true, ite_false, List.getElem?_cons_zero, List.getElem?_cons_succ, List.set_cons_zero, List.set_cons_succ, LEN, Nat.reduceLeDiff, Option.map_some, fvA, List.length_map, List.length_set, decide_true, decide_false, e]
    | lst x =>
      refine other fun r t' e => ?_
      unfold FFr_q_bent fb_q_bent
      simp only [fdA, List.map_cons, List.map_nil, List.length_cons, List.length_nil, List.cons_append, List.nil_append, List.replicate_succ, List.replicate_zero, Nat.zero_add, Nat.reduceAdd, Nat.reduceSub, Nat.sub_self, if_true, if_false, Bool.false_eq_true, Bool.not_true, Bool.not_false, reduceCtorEq, ite_true, ite_false, List.getElem?_cons_zero, List.getElem?_cons_succ, List.set_cons_zero, List.set_cons_succ, LEN, Nat.reduceLeDiff, Option.map_some, fvA, List.length_map, List.length_set, decide_true, decide_false, e]
    | dct x =>
      refine other fun r t' e => ?_
      unfold FFr_q_bent fb_q_bent
      simp only [fdA, List.map_cons, List.map_nil, List.length_cons, List.length_nil, List.cons_append, List.nil_append, List.replicate_succ, List.replicate_zero, Nat.zero_add, Nat.reduceAdd, Nat.reduceSub, Nat.sub_self, if_true, if_false, Bool.false_eq_true, Bool.not_true, Bool.not_false, reduceCtorEq, ite_true, ite_false, List.getElem?_cons_zero, List.getElem?_cons_succ, List.set_cons_zero, List.set_cons_succ, LEN, Nat.reduceLeDiff, Option.map_some, fvA, List.length_map, List.length_set, decide_true, decide_false, e]
    | obj c fs => simp [ord] at ho
    | ty c => simp [ord] at ho
    | hnd c => simp [ord] at ho
    | bl b =>
      refine num [.int (b2i b + 1), .int (b2i b - 1), .str (if b then "True" else "False"), .bl (eqB (.bl b) (.int 1)), .int 0] rfl ?_ fun o r e1 e2 e3 => ?_
      · have : ([.int (b2i b + 1), .int (b2i b - 1), .str (if b then "True" else "False"), .bl (eqB (.bl b) (.int 1)), .int 0] : List D).all (fun d => ord 2 0 d && decide (blk d ≤ 70)) = true := by
          cases b <;> decide +kernel
        intro d m
        have := List.all_eq_true.mp this d m
        simp only [Bool.and_eq_true, decide_eq_true_eq] at this
        exact ⟨ord_mono (by omega) (by omega) this.1, this.2⟩
      · unfold FFr_q_bent fb_q_bent
        simp only [List.cons_append, List.nil_append] at e3
        simp only [fdA, List.map_cons, List.map_nil, List.length_cons, List.length_nil, List.cons_append, List.nil_append, List.replicate_succ, List.replicate_zero, Nat.zero_add, Nat.reduceAdd, Nat.reduceSub, Nat.sub_self, if_true, if_false, Bool.false_eq_true, Bool.not_true, Bool.not_false, reduceCtorEq, ite_true, ite_false, List.getElem?_cons_zero, List.getElem?_cons_succ, List.set_cons_zero, List.set_cons_succ, LEN, Nat.reduceLeDiff, Option.map_some, fvA, List.length_map, List.length_set, decide_true, decide_false, e1, e2, v_add_bi, v_sub_bi, v_str_b, v_eq_bi, v_ix_l e3]
    | int i =>
      unfold ord at ho
      have hi : i.natAbs ≤ B := of_decide_eq_true ho
      have hs := str_blk (i := i) (by omega)
      refine num [.int (i + 1), .int (i - 1), .str (Str.ofString (toString i)), .bl (decide (i = 1)), .int 0] rfl ?_ fun o r e1 e2 e3 => ?_
      · intro d m
        simp only [List.mem_cons, List.not_mem_nil, or_false] at m
        rcases m with rfl | rfl | rfl | rfl | rfl
        · exact ⟨by unfold ord; exact decide_eq_true (by omega), by simp [blk]⟩
        · exact ⟨by unfold ord; exact decide_eq_true (by omega), by simp [blk]⟩
        · exact ⟨hs.2 _ _, by omega⟩
        · exact ⟨by unfold ord; rfl, by simp [blk]⟩
        · exact ⟨by unfold ord; exact decide_eq_true (by omega), by simp [blk]⟩
      · unfold FFr_q_bent fb_q_bent
        simp only [List.cons_append, List.nil_append] at e3
        have hp : i.natAbs < 2 ^ 1000 := Nat.lt_of_le_of_lt hi (Nat.lt_trans hB2 (by decide))
        simp only [fdA, List.map_cons, List.map_nil, List.length_cons, List.length_nil, List.cons_append, List.nil_append, List.replicate_succ, List.replicate_zero, Nat.zero_add, Nat.reduceAdd, Nat.reduceSub, Nat.sub_self, if_true, if_false, Bool.false_eq_true, Bool.not_true, Bool.not_false, reduceCtorEq, ite_true, ite_false, List.getElem?_cons_zero, List.getElem?_cons_succ, List.set_cons_zero, List.set_cons_succ, LEN, Nat.reduceLeDiff, Option.map_some, fvA, List.length_map, List.length_set, decide_true, decide_false, e1, e2, v_str_i hp, v_ix_l e3]
    | tup ds =>
      obtain ⟨m, rfl⟩ : ∃ m, k = m + 1 := ⟨k - 1, by omega⟩
      unfold ord at ho
      simp only [blk] at hb
      cases ds with
      | nil =>
        obtain ⟨o, r, e1, e2, e3, r1, r2, r3⟩ := bent_tup (n := n) (t := t) ho (by omega) hB hb (by omega)
        refine ⟨r, (t.step 23).step 5, ?_, ord_mono (by omega) (by omega) r1, by simp only [blk]; omega, by omega⟩
        have ha : addD (.tup []) (.tup (cutL [] (some (-1)) none)) = some (.tup ([] ++ cutL [] (some (-1)) none), false) := v_catT (by simp [cutL])
        unfold FFr_q_bent fb_q_bent
        rw [List.nil_append] at ha e3
        simp only [fdA, List.map_cons, List.map_nil, List.length_cons, List.length_nil, List.cons_append, List.nil_append, List.replicate_succ, List.replicate_zero, Nat.zero_add, Nat.reduceAdd, Nat.reduceSub, Nat.sub_self, if_true, if_false, Bool.false_eq_true, Bool.not_true, Bool.not_false, reduceCtorEq, ite_true, ite_false, List.getElem?_cons_zero, List.getElem?_cons_succ, List.set_cons_zero, List.set_cons_succ, LEN, Nat.reduceLeDiff, Option.map_some, fvA, List.length_map, List.length_set, decide_true, decide_false, e1, e2, ne_nilT0, v_neg, ha, v_ix_l e3]
      | cons x xs =>
        have l1 := blkA_len (a := x :: xs)
        have l2 := blkA_len (a := cutL (x :: xs) (some (-1)) none)
        have l3 := cut_blk (ds := x :: xs) (lo := some (-1)) (hi := none)
        have ha : addD (.tup (x :: xs)) (.tup (cutL (x :: xs) (some (-1)) none)) = some (.tup (x :: xs ++ cutL (x :: xs) (some (-1)) none), false) := v_catT (by simp only [LEN]; omega)
        have s4 : (t.step 4).c ≤ t.c + 1 := DS.step_c
        have n4 := next_eq (n := n) (t := t) (m := 4) (by decide) (by decide) (by omega)
        by_cases hd : deep = 0
        · subst hd
          obtain ⟨o, r, e1, e2, e3, r1, r2, r3⟩ := bent_tup (n := n) (t := t) ho (by omega) hB hb (by omega)
          refine ⟨r, (t.step 23).step 5, ?_, ord_mono (by omega) (by omega) r1, by simp only [blk]; omega, by omega⟩
          have z : decide ((0 : Int) < ((0 : Nat) : Int)) = false := rfl
          unfold FFr_q_bent fb_q_bent
          rw [List.cons_append] at ha e3
          simp only [fdA, List.map_cons, List.map_nil, List.length_cons, List.length_nil, List.cons_append, List.nil_append, List.replicate_succ, List.replicate_zero, Nat.zero_add, Nat.reduceAdd, Nat.reduceSub, Nat.sub_self, if_true, if_false, Bool.false_eq_true, Bool.not_true, Bool.not_false, reduceCtorEq, ite_true, ite_false, List.getElem?_cons_zero, List.getElem?_cons_succ, List.set_cons_zero, List.set_cons_succ, LEN, Nat.reduceLeDiff, Option.map_some, fvA, List.length_map, List.length_set, decide_true, decide_false, e1, e2, ne_nilT, v_neg, z, ha, v_ix_l e3]
        have z : decide ((0 : Int) < (deep : Int)) = true := decide_eq_true (by omega)
        by_cases h4 : 0 < t.draw 4
        · have z4 : decide (0 < t.draw 4) = true := decide_eq_true h4
          obtain ⟨len, hl⟩ : ∃ len, len = (x :: xs).length := ⟨_, rfl⟩
          have lp : 0 < len := by rw [hl]; simp
          have n5 := next_eq (n := n) (t := t.step 4) (m := (len : Int)) (by omega) (by omega) (by omega)
          have s5 : ((t.step 4).step len).c ≤ (t.step 4).c + 1 := DS.step_c
          have a5 := (t.step 4).draw_in (m := (len : Int)) (by omega)
          obtain ⟨p, hp⟩ := Int.eq_ofNat_of_zero_le a5.1
          rw [hp] at n5 a5
          have hpl : p < (x :: xs).length := by omega
          have hi := atI_nat (List.getElem?_eq_getElem hpl)
          have hm : (x :: xs)[p] ∈ x :: xs := List.getElem_mem hpl
          have hbm := blkA_mem hm
          obtain ⟨r, t', e1, r1, r2, r3⟩ := ih (deep - 1) (k := m + 1) (B := B) (n := n) (thing := (x :: xs)[p]) (t := (t.step 4).step len) (by omega) (ord_mono (Nat.le_refl _) (by omega) (ordA_iff.mp ho _ hm)) hk hB hB2 (by omega) (by omega)
          have ed : ((deep - 1 : Nat) : Int) = (deep : Int) - 1 := by omega
          rw [ed] at e1
          have c1 : cutL (x :: xs) none (some (p : Int)) = (x :: xs).take p := cut_to _ p
          have c2 : cutL (x :: xs) (some ((p : Int) + 1)) none = (x :: xs).drop (p + 1) := cut_from _ (p + 1)
          have split' : (x :: xs) = (x :: xs).take p ++ (x :: xs)[p] :: (x :: xs).drop (p + 1) := by
            rw [← List.drop_eq_getElem_cons hpl, List.take_append_drop]
          have hbs : blkA (x :: xs) = blkA ((x :: xs).take p) + (blk (x :: xs)[p] + 1 + blkA ((x :: xs).drop (p + 1))) := by
            conv => lhs; rw [split']
            rw [blkA_app]
            rfl
          have a1 : addD (.tup ((x :: xs).take p)) (.tup [r]) = some (.tup ((x :: xs).take p ++ [r]), false) := v_catT (by
            have := blkA_len (a := (x :: xs).take p)
            simp only [LEN, List.length_cons, List.length_nil]
            omega)
          have a2 : addD (.tup ((x :: xs).take p ++ [r])) (.tup ((x :: xs).drop (p + 1))) = some (.tup ((x :: xs).take p ++ [r] ++ (x :: xs).drop (p + 1)), false) := v_catT (by
            have := blkA_len (a := (x :: xs).take p)
            have := blkA_len (a := (x :: xs).drop (p + 1))
            simp only [LEN, List.length_append, List.length_cons, List.length_nil]
            omega)
          have hl2 : ((xs.length + 1 : Nat) : Int) = (len : Int) := by rw [hl]; simp
          refine ⟨.tup ((x :: xs).take p ++ [r] ++ (x :: xs).drop (p + 1)), t', ?_, ?_, ?_, by omega⟩
          · unfold FFr_q_bent fb_q_bent
            simp only [fdA, List.map_cons, List.map_nil, List.length_cons, List.length_nil, List.cons_append, List.nil_append, List.replicate_succ, List.replicate_zero, Nat.zero_add, Nat.reduceAdd, Nat.reduceSub, Nat.sub_self, if_true, if_false, Bool.false_eq_true, Bool.not_true, Bool.not_false, reduceCtorEq, ite_true, ite_false, List.getElem?_cons_zero, List.getElem?_cons_succ, List.set_cons_zero, List.set_cons_succ, LEN, Nat.reduceLeDiff, Option.map_some, fvA, List.length_map, List.length_set, decide_true, decide_false, n4, ne_nilT, z, z4, hl2, n5, hp, v_ix_t hi, e1, c1, c2, a1, a2]
          · have mono : ∀ d ∈ x :: xs, ord (B + 1) (m + deep) d = true := fun d md => ord_mono (by omega) (by omega) (ordA_iff.mp ho _ md)
            rw [show m + 1 + deep = (m + deep) + 1 by omega]
            refine ord_tup (ordA_app (ordA_app ?_ (ordA_cons (ord_mono (by omega) (by omega) r1) ordA_nil)) ?_)
            · exact ordA_iff.mpr fun d md => mono d (List.mem_of_mem_take md)
            · exact ordA_iff.mpr fun d md => mono d (List.mem_of_mem_drop md)
          · have e1 : blkA [r] = blk r + 1 := by simp [blkA]
            simp only [blk, blkA_app]
            omega
        · obtain ⟨o, r, e1, e2, e3, r1, r2, r3⟩ := bent_tup (n := n) (t := t.step 4) ho (by omega) hB hb (by omega)
          refine ⟨r, ((t.step 4).step 23).step 5, ?_, ord_mono (by omega) (by omega) r1, by simp only [blk]; omega, by omega⟩
          have z4 : decide (0 < t.draw 4) = false := decide_eq_false h4
          unfold FFr_q_bent fb_q_bent
          rw [List.cons_append] at ha e3
          simp only [fdA, List.map_cons, List.map_nil, List.length_cons, List.length_nil, List.cons_append, List.nil_append, List.replicate_succ, List.replicate_zero, Nat.zero_add, Nat.reduceAdd, Nat.reduceSub, Nat.sub_self, if_true, if_false, Bool.false_eq_true, Bool.not_true, Bool.not_false, reduceCtorEq, ite_true, ite_false, List.getElem?_cons_zero, List.getElem?_cons_succ, List.set_cons_zero, List.set_cons_succ, LEN, Nat.reduceLeDiff, Option.map_some, fvA, List.length_map, List.length_set, decide_true, decide_false, n4, e1, e2, ne_nilT, v_neg, z, z4, ha, v_ix_l e3]
end FD

/-! T1: steps of gains: the greatest gain of so many units, prices, units at a price. -/
namespace GC
abbrev Gs := List (Int × Int)
/-- the number of units -/
def cap : Gs → Int
  | [] => 0
  | (c, _) :: r => c + cap r
/-- the gain of the first u units -/
def fst' : Gs → Int → Int
  | [], _ => 0
  | (c, a) :: r, u => min c u * a + fst' r (u - min c u)
/-- what is gained above the price p -/
def conj : Gs → Int → Int
  | [], _ => 0
  | (c, a) :: r, p => (if p < a then c * (a - p) else 0) + conj r p
/-- how many units gain p or more -/
def from' : Gs → Int → Int
  | [], _ => 0
  | (c, a) :: r, p => (if p ≤ a then c else 0) + from' r p
/-- counts above 0, gains that fall -/
def Falls : Gs → Prop
  | [] => True
  | (c, a) :: r => 0 < c ∧ (∀ x ∈ r, x.2 < a) ∧ Falls r
theorem cap_nonneg : ∀ {g : Gs}, Falls g → 0 ≤ cap g
  | [], _ => Int.le_refl 0
  | (c, a) :: r, ⟨h1, _, h3⟩ => by
    have := cap_nonneg h3
    simp only [cap]
    omega
theorem from_le_cap : ∀ {g : Gs}, Falls g → ∀ p, from' g p ≤ cap g
  | [], _, _ => Int.le_refl 0
  | (c, a) :: r, ⟨h1, _, h3⟩, p => by
    have := from_le_cap h3 p
    simp only [cap, from']
    split <;> omega
theorem from_nonneg : ∀ {g : Gs}, Falls g → ∀ p, 0 ≤ from' g p
  | [], _, _ => Int.le_refl 0
  | (c, a) :: r, ⟨h1, _, h3⟩, p => by
    have := from_nonneg h3 p
    simp only [from']
    split <;> omega
theorem from_anti : ∀ {g : Gs}, Falls g → ∀ {p q : Int}, p ≤ q → from' g q ≤ from' g p
  | [], _, _, _, _ => Int.le_refl 0
  | (c, a) :: r, ⟨h1, _, h3⟩, p, q, h => by
    have := from_anti h3 h
    simp only [from']
    split <;> split <;> omega
theorem from_zero : ∀ {g : Gs} {p : Int}, (∀ x ∈ g, x.2 < p) → from' g p = 0
  | [], _, _ => rfl
  | (c, a) :: r, p, h => by
    have h1 : a < p := h (c, a) (List.mem_cons_self ..)
    have := from_zero (g := r) (p := p) fun x m => h x (List.mem_cons_of_mem _ m)
    simp only [from', this]
    rw [if_neg (by omega)]
    rfl
theorem conj_nonneg : ∀ {g : Gs}, Falls g → ∀ p, 0 ≤ conj g p
  | [], _, _ => Int.le_refl 0
  | (c, a) :: r, ⟨h1, _, h3⟩, p => by
    have := conj_nonneg h3 p
    simp only [conj]
    split
    · have := Int.mul_nonneg (a := c) (b := a - p) (by omega) (by omega)
      omega
    · omega
theorem conj_zero : ∀ {g : Gs} {p : Int}, (∀ x ∈ g, x.2 ≤ p) → conj g p = 0
  | [], _, _ => rfl
  | (c, a) :: r, p, h => by
    have h1 : a ≤ p := h (c, a) (List.mem_cons_self ..)
    have := conj_zero (g := r) (p := p) fun x m => h x (List.mem_cons_of_mem _ m)
    simp only [conj, this]
    rw [if_neg (by omega)]
    rfl
theorem fst_zero : ∀ (g : Gs), Falls g → fst' g 0 = 0
  | [], _ => rfl
  | (c, a) :: r, ⟨h1, _, h3⟩ => by
    simp only [fst']
    rw [Int.min_eq_right (by omega)]
    simp [fst_zero r h3]
theorem fst_cons_le {c a u : Int} {r : Gs} (h : u ≤ c) (hr : Falls r) (h0 : 0 ≤ u) : fst' ((c, a) :: r) u = u * a := by
  simp only [fst']
  rw [Int.min_eq_right h, Int.sub_self, fst_zero r hr]
  omega
theorem fst_cons_ge {c a u : Int} {r : Gs} (h : c ≤ u) : fst' ((c, a) :: r) u = c * a + fst' r (u - c) := by
  simp only [fst']
  rw [Int.min_eq_left h]
/-- no units gain more than what they pay and what is gained above the price -/
theorem fst_le : ∀ {g : Gs}, Falls g → ∀ (p u : Int), 0 ≤ u → u ≤ cap g → fst' g u ≤ conj g p + p * u
  | [], _, p, u, h0, h1 => by
    have : u = 0 := by simp only [cap] at h1; omega
    subst this
    simp [fst', conj]
  | (c, a) :: r, ⟨h1, h2, h3⟩, p, u, h0, hu => by
    have hc := conj_nonneg h3 p
    by_cases h : u ≤ c
    · rw [fst_cons_le h h3 h0]
      simp only [conj]
      have e : u * a = u * (a - p) + p * u := by rw [Int.mul_sub, Int.mul_comm u p]; omega
      rw [e]
      split
      · rename_i hp
        have := Int.mul_le_mul_of_nonneg_right (a := u) (b := c) (c := a - p) h (by omega)
        omega
      · have := Int.mul_nonneg (a := u) (b := p - a) h0 (by omega)
        have e2 : u * (a - p) = - (u * (p - a)) := by rw [← Int.mul_neg]; congr 1; omega
        omega
    · have hh : c ≤ u := by omega
      rw [fst_cons_ge hh]
      have ih := fst_le h3 p (u - c) (by omega) (by simp only [cap] at hu; omega)
      have e : p * (u - c) = p * u - p * c := Int.mul_sub ..
      have e2 : c * a = c * (a - p) + p * c := by rw [Int.mul_sub, Int.mul_comm c p]; omega
      simp only [conj]
      split
      · omega
      · have := Int.mul_nonneg (a := c) (b := p - a) (by omega) (by omega)
        have e3 : c * (a - p) = - (c * (p - a)) := by rw [← Int.mul_neg]; congr 1; omega
        omega
/-- where the price lies between the gains of the units before and behind, nothing is lost -/
theorem fst_eq : ∀ {g : Gs}, Falls g → ∀ (p u : Int), 0 ≤ u → u ≤ cap g → from' g (p + 1) ≤ u → u ≤ from' g p → fst' g u = conj g p + p * u
  | [], _, p, u, h0, h1, _, _ => by
    have : u = 0 := by simp only [cap] at h1; omega
    subst this
    simp [fst', conj]
  | (c, a) :: r, ⟨h1, h2, h3⟩, p, u, h0, hu, l, m => by
    simp only [from'] at l m
    by_cases hp : p < a
    · rw [if_pos (by omega)] at l m
      have hn := from_nonneg h3 (p + 1)
      rw [fst_cons_ge (by omega)]
      have ih := fst_eq h3 p (u - c) (by omega) (by simp only [cap] at hu; omega) (by omega) (by omega)
      rw [ih]
      have e : p * (u - c) = p * u - p * c := Int.mul_sub ..
      have e2 : c * a = c * (a - p) + p * c := by rw [Int.mul_sub, Int.mul_comm c p]; omega
      simp only [conj]
      rw [if_pos hp]
      omega
    · have z1 := conj_zero (g := r) (p := p) fun x mx => by have := h2 x mx; omega
      have z2 : p = a ∨ a < p := by omega
      simp only [conj]
      rw [if_neg hp, z1]
      rcases z2 with rfl | z2
      · rw [if_pos (Int.le_refl _)] at m
        have z3 := from_zero (g := r) (p := p) h2
        rw [fst_cons_le (by omega) h3 h0, Int.mul_comm]
        omega
      · rw [if_neg (by omega)] at m
        have z3 := from_zero (g := r) (p := p) fun x mx => by have := h2 x mx; omega
        have : u = 0 := by omega
        subst this
        rw [fst_zero ((c, a) :: r) ⟨h1, h2, h3⟩]
        simp
theorem fst_lt : ∀ {g : Gs}, Falls g → ∀ (p u : Int), 0 ≤ u → u ≤ cap g → fst' g u = conj g p + p * u → from' g (p + 1) ≤ u ∧ u ≤ from' g p
  | [], _, p, u, h0, h1, _ => by
    have : u = 0 := by simp only [cap] at h1; omega
    subst this
    simp [from']
  | (c, a) :: r, ⟨h1, h2, h3⟩, p, u, h0, hu, e => by
    have hc := conj_nonneg h3 p
    simp only [from']
    by_cases h : u ≤ c
    · rw [fst_cons_le h h3 h0] at e
      simp only [conj] at e
      have e1 : u * a = u * (a - p) + p * u := by rw [Int.mul_sub, Int.mul_comm u p]; omega
      rw [e1] at e
      by_cases hp : p < a
      · rw [if_pos hp] at e
        have z : (c - u) * (a - p) = c * (a - p) - u * (a - p) := Int.sub_mul ..
        have z2 : (c - u) * (a - p) = 0 := by
          have := Int.mul_nonneg (a := c - u) (b := a - p) (by omega) (by omega)
          omega
        have z3 : c - u = 0 := by
          rcases Int.mul_eq_zero.mp z2 with z | z <;> omega
        have z4 : conj r p = 0 := by omega
        have z5 : from' r (p + 1) = 0 := by
          have ih := fst_lt h3 p 0 (Int.le_refl 0) (cap_nonneg h3) (by rw [fst_zero r h3, z4]; simp)
          have := from_nonneg h3 (p + 1)
          omega
        rw [if_pos (by omega), if_pos (by omega)]
        have := from_nonneg h3 p
        omega
      · rw [if_neg hp] at e
        have e3 : u * (a - p) = - (u * (p - a)) := by rw [← Int.mul_neg]; congr 1; omega
        have := Int.mul_nonneg (a := u) (b := p - a) h0 (by omega)
        have z3 : u * (p - a) = 0 := by omega
        have z5 := from_zero (g := r) (p := p + 1) fun x mx => by have := h2 x mx; omega
        rw [if_neg (by omega), z5]
        refine ⟨by omega, ?_⟩
        have := from_nonneg h3 p
        rcases Int.mul_eq_zero.mp z3 with z | z
        · split <;> omega
        · rw [if_pos (by omega)]
          omega
    · have hh : c ≤ u := by omega
      rw [fst_cons_ge hh] at e
      have le := fst_le h3 p (u - c) (by omega) (by simp only [cap] at hu; omega)
      have e1 : p * (u - c) = p * u - p * c := Int.mul_sub ..
      have e2 : c * a = c * (a - p) + p * c := by rw [Int.mul_sub, Int.mul_comm c p]; omega
      simp only [conj] at e
      have hap : ¬ a < p := fun hap => by
        rw [if_neg (by omega)] at e
        have := Int.mul_pos (a := c) (b := p - a) (by omega) (by omega)
        have e3 : c * (a - p) = - (c * (p - a)) := by rw [← Int.mul_neg]; congr 1; omega
        omega
      by_cases hp : p < a
      · rw [if_pos hp] at e
        have ih := fst_lt h3 p (u - c) (by omega) (by simp only [cap] at hu; omega) (by omega)
        rw [if_pos (by omega), if_pos (by omega)]
        omega
      · have : a = p := by omega
        subst this
        rw [if_neg hp] at e
        have z : c * (a - a) = 0 := by simp
        have ih := fst_lt h3 a (u - c) (by omega) (by simp only [cap] at hu; omega) (by omega)
        rw [if_neg (by omega), if_pos (by omega)]
        omega
/-- some price fits for each number of units -/
theorem price_at : ∀ {g : Gs}, Falls g → ∀ u, 0 ≤ u → u ≤ cap g → ∃ p, from' g (p + 1) ≤ u ∧ u ≤ from' g p
  | [], _, u, h0, h1 => ⟨0, by simp only [cap, from'] at *; omega⟩
  | (c, a) :: r, ⟨h1, h2, h3⟩, u, h0, hu => by
    by_cases h : u ≤ c
    · refine ⟨a, ?_, ?_⟩
      · simp only [from']
        rw [if_neg (by omega), from_zero fun x mx => by have := h2 x mx; omega]
        omega
      · simp only [from']
        rw [if_pos (Int.le_refl _)]
        have := from_nonneg h3 a
        omega
    · obtain ⟨p, q1, q2⟩ := price_at h3 (u - c) (by omega) (by simp only [cap] at hu; omega)
      refine ⟨p, ?_, ?_⟩
      · simp only [from']
        split <;> omega
      · simp only [from']
        have : p ≤ a := Classical.byContradiction fun hn => by
          have := from_zero (g := r) (p := p) fun x mx => by have := h2 x mx; omega
          omega
        rw [if_pos this]
        omega
end GC

/-! T2: steps joined, steps between. -/
namespace GC
theorem from_app (a b : Gs) (p : Int) : from' (a ++ b) p = from' a p + from' b p := by
  induction a with
  | nil => simp [from']
  | cons x r ih => obtain ⟨c, g⟩ := x; simp only [List.cons_append, from', ih]; omega
theorem conj_app (a b : Gs) (p : Int) : conj (a ++ b) p = conj a p + conj b p := by
  induction a with
  | nil => simp [conj]
  | cons x r ih => obtain ⟨c, g⟩ := x; simp only [List.cons_append, conj, ih]; omega
theorem cap_app (a b : Gs) : cap (a ++ b) = cap a + cap b := by
  induction a with
  | nil => simp [cap]
  | cons x r ih => obtain ⟨c, g⟩ := x; simp only [List.cons_append, cap, ih]; omega
/-- one step more, in falling order -/
def ins (c a : Int) : Gs → Gs
  | [] => [(c, a)]
  | (d, b) :: r => if b < a then (c, a) :: (d, b) :: r else if b = a then (d + c, b) :: r else (d, b) :: ins c a r
def joined : Gs → Gs
  | [] => []
  | (c, a) :: r => ins c a (joined r)
theorem from_ins (c a : Int) (p : Int) : ∀ g : Gs, from' (ins c a g) p = (if p ≤ a then c else 0) + from' g p
  | [] => by simp [ins, from']
  | (d, b) :: r => by
    simp only [ins]
    split
    · simp [from']
    · split
      · subst_vars
        simp only [from']
        split <;> omega
      · simp only [from', from_ins c a p r]
        omega
theorem conj_ins (c a : Int) (p : Int) : ∀ g : Gs, conj (ins c a g) p = (if p < a then c * (a - p) else 0) + conj g p
  | [] => by simp [ins, conj]
  | (d, b) :: r => by
    simp only [ins]
    split
    · simp [conj]
    · split
      · subst_vars
        simp only [conj]
        split
        · rw [Int.add_mul]; omega
        · omega
      · simp only [conj, conj_ins c a p r]
        omega
theorem cap_ins (c a : Int) : ∀ g : Gs, cap (ins c a g) = c + cap g
  | [] => by simp [ins, cap]
  | (d, b) :: r => by
    simp only [ins]
    split
    · simp [cap]
    · split
      · simp only [cap]; omega
      · simp only [cap, cap_ins c a r]
        omega
theorem mem_ins {c a : Int} {x : Int × Int} : ∀ {g : Gs}, x ∈ ins c a g → x.2 = a ∨ ∃ y ∈ g, y.2 = x.2
  | [], h => by
    simp [ins] at h
    exact .inl (by rw [h])
  | (d, b) :: r, h => by
    simp only [ins] at h
    split at h
    · rcases List.mem_cons.mp h with h | h
      · exact .inl (by rw [h])
      · exact .inr ⟨x, h, rfl⟩
    · split at h
      · rcases List.mem_cons.mp h with h | h
        · exact .inr ⟨(d, b), List.mem_cons_self .., by rw [h]⟩
        · exact .inr ⟨x, List.mem_cons_of_mem _ h, rfl⟩
      · rcases List.mem_cons.mp h with h | h
        · exact .inr ⟨(d, b), List.mem_cons_self .., by rw [h]⟩
        · rcases mem_ins h with h | ⟨y, m, e⟩
          · exact .inl h
          · exact .inr ⟨y, List.mem_cons_of_mem _ m, e⟩
theorem falls_ins {c a : Int} (hc : 0 < c) : ∀ {g : Gs}, Falls g → Falls (ins c a g)
  | [], _ => ⟨hc, (fun _ h => by cases h), trivial⟩
  | (d, b) :: r, ⟨h1, h2, h3⟩ => by
    simp only [ins]
    split
    · refine ⟨hc, fun x h => ?_, h1, h2, h3⟩
      rcases List.mem_cons.mp h with h | h
      · rw [h]; assumption
      · have := h2 x h
        omega
    · split
      · exact ⟨by omega, h2, h3⟩
      · refine ⟨h1, fun x h => ?_, falls_ins hc h3⟩
        rcases mem_ins h with h | ⟨y, m, e⟩
        · omega
        · have := h2 y m
          omega
def Pos (g : Gs) : Prop := ∀ x ∈ g, 0 < x.1
theorem Falls.pos : ∀ {g : Gs}, Falls g → Pos g
  | [], _ => fun _ h => by cases h
  | (c, a) :: r, ⟨h1, h2, h3⟩ => fun x h => by
    rcases List.mem_cons.mp h with h | h
    · rw [h]; exact h1
    · exact h3.pos x h
theorem falls_joined : ∀ {g : Gs}, Pos g → Falls (joined g)
  | [], _ => trivial
  | (c, a) :: r, h => falls_ins (h (c, a) (List.mem_cons_self ..)) (falls_joined fun x m => h x (List.mem_cons_of_mem _ m))
theorem from_joined (p : Int) : ∀ g : Gs, from' (joined g) p = from' g p
  | [] => rfl
  | (c, a) :: r => by simp only [joined, from_ins, from_joined p r, from']
theorem conj_joined (p : Int) : ∀ g : Gs, conj (joined g) p = conj g p
  | [] => rfl
  | (c, a) :: r => by simp only [joined, conj_ins, conj_joined p r, conj]
theorem cap_joined : ∀ g : Gs, cap (joined g) = cap g
  | [] => rfl
  | (c, a) :: r => by simp only [joined, cap_ins, cap_joined r, cap]
/-- lists with falling gains are known by their units at each price -/
theorem falls_ext : ∀ {g h : Gs}, Falls g → Falls h → (∀ p, from' g p = from' h p) → g = h
  | [], [], _, _, _ => rfl
  | [], (c, a) :: r, _, ⟨h1, h2, h3⟩, e => by
    have := e a
    have z := from_nonneg h3 a
    simp only [from'] at this
    rw [if_pos (Int.le_refl _)] at this
    omega
  | (c, a) :: r, [], ⟨h1, h2, h3⟩, _, e => by
    have := e a
    have z := from_nonneg h3 a
    simp only [from'] at this
    rw [if_pos (Int.le_refl _)] at this
    omega
  | (c, a) :: r, (d, b) :: s, ⟨h1, h2, h3⟩, ⟨k1, k2, k3⟩, e => by
    have ab : a = b := by
      have ea := e a
      have eb := e b
      have ea1 := e (a + 1)
      have eb1 := e (b + 1)
      have f1 := from_nonneg h3 a
      have f2 := from_nonneg k3 b
      have z1 := from_zero (g := r) (p := a) h2
      have z2 := from_zero (g := s) (p := b) k2
      simp only [from'] at ea eb ea1 eb1
      by_cases q : a = b
      · exact q
      · exfalso
        by_cases q2 : a < b
        · rw [if_neg (by omega), if_pos (Int.le_refl _)] at eb
          have := from_zero (g := r) (p := b) fun x m => by have := h2 x m; omega
          omega
        · rw [if_pos (Int.le_refl _), if_neg (by omega)] at ea
          have := from_zero (g := s) (p := a) fun x m => by have := k2 x m; omega
          omega
    subst ab
    have z1 := from_zero (g := r) (p := a) h2
    have z2 := from_zero (g := s) (p := a) k2
    have ea := e a
    simp only [from'] at ea
    rw [if_pos (Int.le_refl _), if_pos (Int.le_refl _), z1, z2] at ea
    have cd : c = d := by omega
    subst cd
    have : r = s := falls_ext h3 k3 fun p => by
      have := e p
      simp only [from'] at this
      omega
    rw [this]
/-- the steps of the units from index f on and before index l; the units of g begin at index b -/
def btwn (f l : Int) : Int → Gs → Gs
  | _, [] => []
  | b, (c, a) :: r => (if 0 < min (b + c) l - max b f then [(min (b + c) l - max b f, a)] else []) ++ btwn f l (b + c) r
def clip (f l x : Int) : Int := max f (min l x)
theorem mem_btwn {f l : Int} {x : Int × Int} : ∀ {b : Int} {g : Gs}, x ∈ btwn f l b g → 0 < x.1 ∧ ∃ y ∈ g, y.2 = x.2
  | _, [], h => by cases h
  | b, (c, a) :: r, h => by
    simp only [btwn] at h
    rcases List.mem_append.mp h with h | h
    · split at h
      · rw [List.mem_singleton] at h
        subst h
        exact ⟨by assumption, (c, a), List.mem_cons_self .., rfl⟩
      · cases h
    · obtain ⟨h1, y, m, e⟩ := mem_btwn h
      exact ⟨h1, y, List.mem_cons_of_mem _ m, e⟩
theorem falls_btwn {f l : Int} : ∀ {b : Int} {g : Gs}, Falls g → Falls (btwn f l b g)
  | _, [], _ => trivial
  | b, (c, a) :: r, ⟨h1, h2, h3⟩ => by
    simp only [btwn]
    split
    · exact ⟨by assumption, fun x m => by
        obtain ⟨_, y, m, e⟩ := mem_btwn m
        have := h2 y m
        omega, falls_btwn h3⟩
    · exact falls_btwn h3
theorem from_btwn {f l : Int} (p : Int) : ∀ {b : Int} {g : Gs}, Falls g → f ≤ l → from' (btwn f l b g) p = clip f l (b + from' g p) - clip f l b
  | b, [], _, _ => by simp [btwn, from']
  | b, (c, a) :: r, ⟨h1, h2, h3⟩, h => by
    have ih := from_btwn (f := f) (l := l) p (b := b + c) h3 h
    have n := from_nonneg h3 p
    simp only [btwn, from_app, ih, from']
    by_cases hp : p ≤ a
    · rw [if_pos hp]
      split
      · simp only [from', if_pos hp, clip]
        omega
      · simp only [from', clip]
        omega
    · have z := from_zero (g := r) (p := p) fun x m => by have := h2 x m; omega
      rw [if_neg hp, z]
      split
      · simp only [from', if_neg hp, clip]
        omega
      · simp only [from', clip]
        omega
theorem cap_btwn {f l : Int} : ∀ {b : Int} {g : Gs}, Falls g → f ≤ l → cap (btwn f l b g) = clip f l (b + cap g) - clip f l b
  | b, [], _, _ => by simp [btwn, cap]
  | b, (c, a) :: r, ⟨h1, h2, h3⟩, h => by
    have ih := cap_btwn (f := f) (l := l) (b := b + c) h3 h
    have n := cap_nonneg h3
    simp only [btwn, cap_app, ih, cap]
    split
    · simp only [cap, clip]
      omega
    · simp only [cap, clip]
      omega
theorem fst_app {a b : Gs} : ∀ {u : Int}, Falls a → Falls b → 0 ≤ u → fst' (a ++ b) u = fst' a (min u (cap a)) + fst' b (u - min u (cap a)) := by
  induction a with
  | nil =>
    intro u _ hb hu
    simp only [List.nil_append, cap, fst']
    rw [Int.min_eq_right hu]
    simp
  | cons x r ih =>
    obtain ⟨c, a⟩ := x
    rintro u ⟨h1, h2, h3⟩ hb hu
    have n := cap_nonneg h3
    simp only [List.cons_append, fst', cap]
    by_cases q : u ≤ c
    · have ih := ih (u := 0) h3 hb (Int.le_refl 0)
      rw [Int.min_eq_right q, Int.sub_self, Int.min_eq_left (by omega : u ≤ c + cap r), Int.min_eq_right q, Int.sub_self, ih, Int.min_eq_left n, fst_zero r h3, Int.sub_self]
      omega
    · have ih := ih (u := u - c) h3 hb (by omega)
      rw [Int.min_eq_left (by omega), ih, Int.min_eq_left (by omega : c ≤ min u (c + cap r))]
      have e : min (u - c) (cap r) = min u (c + cap r) - c := by omega
      rw [e]
      have e2 : u - c - (min u (c + cap r) - c) = u - min u (c + cap r) := by omega
      rw [e2]
      omega
theorem fst_btwn {f l : Int} : ∀ {g : Gs} {b : Int}, Falls g → ∀ u, 0 ≤ u → f ≤ l → b ≤ f → l ≤ b + cap g → u ≤ l - f → fst' (btwn f l b g) u = fst' g (f - b + u) - fst' g (f - b)
  | [], b, _, u, h0, h1, h2, h3, h4 => by
    simp only [btwn, fst']
    omega
  | (c, a) :: r, b, ⟨h1, h2, h3⟩, u, h0, k1, k2, k3, k4 => by
    have n := cap_nonneg h3
    simp only [cap] at k3
    -- the units of r alone
    have later : ∀ f l : Int, b + c ≤ f → f ≤ l → l ≤ b + (c + cap r) → btwn f l b ((c, a) :: r) = btwn f l (b + c) r := fun f l q1 q2 q3 => by
      simp only [btwn]
      rw [if_neg (by omega)]
      rfl
    by_cases q : b + c ≤ f
    · rw [later f l q k1 k3, fst_btwn h3 u h0 k1 q (by omega) k4, fst_cons_ge (by omega), fst_cons_ge (by omega)]
      have e1 : f - b + u - c = f - (b + c) + u := by omega
      have e2 : f - b - c = f - (b + c) := by omega
      rw [e1, e2]
      omega
    · by_cases q2 : l ≤ b + c
      · -- the first step alone
        have e : ∀ {b' : Int} {g : Gs}, Falls g → l ≤ b' → btwn f l b' g = [] := by
          intro b' g
          induction g generalizing b' with
          | nil => intros; rfl
          | cons x s ih =>
            obtain ⟨d, w⟩ := x
            rintro ⟨w1, w2, w3⟩ q
            simp only [btwn]
            rw [if_neg (by omega), ih w3 (by omega)]
            rfl
        simp only [btwn]
        rw [e h3 q2, List.append_nil, Int.min_eq_right q2, Int.max_eq_right k2, fst_cons_le (by omega) h3 (by omega), fst_cons_le (by omega) h3 (by omega), Int.add_mul]
        split
        · simp only [fst']
          rw [Int.min_eq_right k4]
          omega
        · have : u = 0 := by omega
          subst this
          simp [fst']
      · have s : btwn f l b ((c, a) :: r) = (b + c - f, a) :: btwn f l (b + c) r := by
          simp only [btwn]
          rw [Int.min_eq_left (by omega), Int.max_eq_right k2, if_pos (by omega)]
          rfl
        have sh : btwn f l (b + c) r = btwn (b + c) l (b + c) r := by
          have : ∀ {g : Gs} {b' : Int}, Falls g → b + c ≤ b' → btwn f l b' g = btwn (b + c) l b' g := by
            intro g
            induction g with
            | nil => intros; rfl
            | cons x s ih =>
              obtain ⟨d, w⟩ := x
              rintro b' ⟨w1, w2, w3⟩ q
              simp only [btwn]
              rw [ih w3 (by omega), Int.max_eq_left (by omega : f ≤ b'), Int.max_eq_left (by omega : b + c ≤ b')]
          exact this h3 (Int.le_refl _)
        rw [s, sh, fst_cons_le (by omega : f - b ≤ c) h3 (by omega)]
        by_cases q3 : u ≤ b + c - f
        · rw [fst_cons_le q3 (falls_btwn h3) h0, fst_cons_le (by omega) h3 (by omega), Int.add_mul]
          omega
        · rw [fst_cons_ge (by omega), fst_btwn h3 (u - (b + c - f)) (by omega) (by omega) (Int.le_refl _) (by omega) (by omega), fst_cons_ge (by omega)]
          have e1 : b + c - (b + c) + (u - (b + c - f)) = f - b + u - c := by omega
          have e2 : b + c - (b + c) = 0 := by omega
          rw [e1, e2, fst_zero r h3]
          have e3 : (b + c - f) * a = c * a - (f - b) * a := by
            rw [← Int.sub_mul]
            congr 1
            omega
          omega
/-- the gain of the unit with this index -/
def unit (g : Gs) (i : Int) : Int := match btwn i (i + 1) 0 g with
  | [] => 0
  | (_, a) :: _ => a
theorem unit_ok {g : Gs} (h : Falls g) {i : Int} (h0 : 0 ≤ i) (h1 : i < cap g) : (∃ c r, btwn i (i + 1) 0 g = (c, unit g i) :: r) ∧ i < from' g (unit g i) ∧ from' g (unit g i + 1) ≤ i := by
  have hc := cap_btwn (f := i) (l := i + 1) (b := 0) h (by omega)
  have fb := falls_btwn (f := i) (l := i + 1) (b := 0) h
  have ff := fun p => from_btwn (f := i) (l := i + 1) p (b := 0) h (by omega)
  cases e : btwn i (i + 1) 0 g with
  | nil =>
    rw [e] at hc
    simp only [cap, clip] at hc
    omega
  | cons x r =>
    obtain ⟨c, a⟩ := x
    have u : unit g i = a := by unfold unit; rw [e]
    rw [u]
    rw [e] at fb ff
    have f1 := ff a
    have f2 := ff (a + 1)
    have z := from_zero (g := r) (p := a + 1) fun x m => by have := fb.2.1 x m; omega
    have n := from_nonneg fb.2.2 a
    have hp := fb.1
    simp only [from', clip] at f1 f2
    rw [if_pos (Int.le_refl _)] at f1
    rw [if_neg (by omega), z] at f2
    refine ⟨⟨c, r, rfl⟩, ?_, ?_⟩ <;> omega
end GC

/-! T3: parts: what fits them, their curves. -/
namespace GC
inductive Part where
  | mk (num : Option Int) (ms : List Int) (lo hi : Int) (rs cg ci : List Int) (ins : List Part)
namespace Part
def num : Part → Option Int | mk n _ _ _ _ _ _ _ => n
def ms : Part → List Int | mk _ m _ _ _ _ _ _ => m
def lo : Part → Int | mk _ _ l _ _ _ _ _ => l
def hi : Part → Int | mk _ _ _ h _ _ _ _ => h
def rs : Part → List Int | mk _ _ _ _ r _ _ _ => r
def cg : Part → List Int | mk _ _ _ _ _ c _ _ => c
def ci : Part → List Int | mk _ _ _ _ _ _ c _ => c
def ins : Part → List Part | mk _ _ _ _ _ _ _ i => i
end Part
/-- the sum of units -/
def S (x : Int → Int) (ms : List Int) : Int := (ms.map x).sum
/-- the gain of units -/
def V (it : Int → Gs) (x : Int → Int) (ms : List Int) : Int := (ms.map fun i => fst' (it i) (x i)).sum
theorem S_app (x : Int → Int) (a b : List Int) : S x (a ++ b) = S x a + S x b := by simp [S, List.sum_append]
theorem V_app (it : Int → Gs) (x : Int → Int) (a b : List Int) : V it x (a ++ b) = V it x a + V it x b := by simp [V, List.sum_append]
theorem S_congr {x y : Int → Int} {ms : List Int} (h : ∀ i ∈ ms, x i = y i) : S x ms = S y ms := by
  unfold S
  rw [List.map_congr_left h]
theorem V_congr {it : Int → Gs} {x y : Int → Int} {ms : List Int} (h : ∀ i ∈ ms, x i = y i) : V it x ms = V it y ms := by
  unfold V
  rw [List.map_congr_left fun i m => by rw [h i m]]
def msOf : List Part → List Int
  | [] => []
  | p :: ps => p.ms ++ msOf ps
def loOf : List Part → Int
  | [] => 0
  | p :: ps => p.lo + loOf ps
def hiOf : List Part → Int
  | [] => 0
  | p :: ps => p.hi + hiOf ps
mutual
def Fit (x : Int → Int) : Part → Prop
  | .mk _ ms lo hi _ _ _ ins => (lo ≤ S x ms ∧ S x ms ≤ hi) ∧ Fits x ins
def Fits (x : Int → Int) : List Part → Prop
  | [] => True
  | p :: ps => Fit x p ∧ Fits x ps
end
mutual
def Good (it : Int → Gs) : Part → Prop
  | .mk _ ms lo hi _ _ _ ins => ms.Nodup ∧ lo ≤ hi ∧ (ins = [] → ∃ i, ms = [i] ∧ lo = 0 ∧ hi = cap (it i) ∧ Falls (it i)) ∧ (ins ≠ [] → ms = msOf ins ∧ loOf ins ≤ lo ∧ hi ≤ hiOf ins) ∧ Goods it ins
def Goods (it : Int → Gs) : List Part → Prop
  | [] => True
  | p :: ps => Good it p ∧ Goods it ps
end
abbrev Curve := Int × Int × Gs
def lowC : List Curve → Int
  | [] => 0
  | c :: r => c.1 + lowC r
def gainC : List Curve → Int
  | [] => 0
  | c :: r => c.2.1 + gainC r
def flatC : List Curve → Gs
  | [] => []
  | c :: r => c.2.2 ++ flatC r
def freeC (cs : List Curve) : Curve := (lowC cs, gainC cs, joined (flatC cs))
def cutC (lo hi : Int) (f : Curve) : Curve := (lo, f.2.1 + fst' f.2.2 (lo - f.1), btwn (lo - f.1) (hi - f.1) 0 f.2.2)
mutual
def curve (it : Int → Gs) : Part → Curve
  | .mk _ ms lo hi _ _ _ ins => if ins.isEmpty then (0, 0, it (ms.headD 0)) else cutC lo hi (freeC (curves it ins))
def curves (it : Int → Gs) : List Part → List Curve
  | [] => []
  | p :: ps => curve it p :: curves it ps
end
theorem Good.nodup {it : Int → Gs} : ∀ {p : Part}, Good it p → p.ms.Nodup
  | .mk _ ms lo hi _ _ _ ins, h => by unfold Good at h; exact h.1
theorem Good.le {it : Int → Gs} : ∀ {p : Part}, Good it p → p.lo ≤ p.hi
  | .mk _ ms lo hi _ _ _ ins, h => by unfold Good at h; exact h.2.1
theorem Fit.sum {x : Int → Int} : ∀ {p : Part}, Fit x p → p.lo ≤ S x p.ms ∧ S x p.ms ≤ p.hi
  | .mk _ ms lo hi _ _ _ ins, h => by unfold Fit at h; exact h.1
theorem mem_msOf {i : Int} : ∀ {ps : List Part}, i ∈ msOf ps ↔ ∃ p ∈ ps, i ∈ p.ms
  | [] => by simp [msOf]
  | p :: ps => by simp [msOf, mem_msOf (ps := ps)]
/-- to fit is said of the members alone -/
theorem Fits.congr' {it : Int → Gs} {x y : Int → Int} (n : Nat) : (∀ p : Part, sizeOf p < n → Good it p → (∀ i ∈ p.ms, x i = y i) → Fit x p → Fit y p) ∧ (∀ ps : List Part, sizeOf ps < n → Goods it ps → (∀ i ∈ msOf ps, x i = y i) → Fits x ps → Fits y ps) := by
  induction n with
  | zero => exact ⟨fun _ h => by omega, fun _ h => by omega⟩
  | succ n ih =>
    constructor
    · intro p hn g e f
      cases p with
      | mk a ms lo hi b c d ins =>
        unfold Good at g
        unfold Fit at f ⊢
        simp only [Part.ms] at e
        refine ⟨by rw [← S_congr e]; exact f.1, ?_⟩
        cases ins with
        | nil => unfold Fits; trivial
        | cons q qs =>
          obtain ⟨g1, _⟩ := g.2.2.2.1 (by simp)
          exact ih.2 _ (by simp at hn ⊢; omega) g.2.2.2.2 (fun i m => e i (by rw [g1]; exact m)) f.2
    · intro ps hn g e f
      cases ps with
      | nil => unfold Fits; trivial
      | cons p ps =>
        unfold Goods at g
        unfold Fits at f ⊢
        have hp : 0 < sizeOf ps := by cases ps <;> simp <;> omega
        exact ⟨ih.1 p (by simp at hn; omega) g.1 (fun i m => e i (by simp [msOf, m])) f.1, ih.2 ps (by simp at hn; omega) g.2 (fun i m => e i (by simp [msOf, m])) f.2⟩
theorem Fit.congr {it : Int → Gs} {x y : Int → Int} {p : Part} (g : Good it p) (e : ∀ i ∈ p.ms, x i = y i) (f : Fit x p) : Fit y p := (Fits.congr' (sizeOf p + 1)).1 p (by omega) g e f
theorem Fits.congr {it : Int → Gs} {x y : Int → Int} {p : List Part} (g : Goods it p) (e : ∀ i ∈ msOf p, x i = y i) (f : Fits x p) : Fits y p := (Fits.congr' (sizeOf p + 1)).2 p (by omega) g e f
/-- what is known of a curve of a part -/
structure CurveOk (it : Int → Gs) (p : Part) (c : Curve) : Prop where
  low : c.1 = p.lo
  falls : Falls c.2.2
  cap : cap c.2.2 = p.hi - p.lo
  up : ∀ x, Fit x p → V it x p.ms ≤ c.2.1 + fst' c.2.2 (S x p.ms - p.lo)
  at_ : ∀ u, p.lo ≤ u → u ≤ p.hi → ∃ x, Fit x p ∧ S x p.ms = u ∧ V it x p.ms = c.2.1 + fst' c.2.2 (u - p.lo)
inductive CurvesOk (it : Int → Gs) : List Part → List Curve → Prop
  | nil : CurvesOk it [] []
  | cons {p : Part} {ps : List Part} {c : Curve} {cs : List Curve} : CurveOk it p c → CurvesOk it ps cs → CurvesOk it (p :: ps) (c :: cs)
theorem CurvesOk.low {it : Int → Gs} : ∀ {ps : List Part} {cs : List Curve}, CurvesOk it ps cs → lowC cs = loOf ps
  | _, _, .nil => rfl
  | _, _, .cons h r => by simp only [lowC, loOf, h.low, r.low]
theorem CurvesOk.cap {it : Int → Gs} : ∀ {ps : List Part} {cs : List Curve}, CurvesOk it ps cs → GC.cap (flatC cs) = hiOf ps - loOf ps
  | _, _, .nil => rfl
  | _, _, .cons h r => by simp only [flatC, cap_app, hiOf, loOf, h.cap, r.cap]; omega
theorem CurvesOk.pos {it : Int → Gs} : ∀ {ps : List Part} {cs : List Curve}, CurvesOk it ps cs → Pos (flatC cs)
  | _, _, .nil => fun _ h => by cases h
  | _, _, .cons h r => fun x m => by
    simp only [flatC, List.mem_append] at m
    rcases m with m | m
    · exact h.falls.pos x m
    · exact r.pos x m
/-- a price bounds all -/
theorem CurveOk.price {it : Int → Gs} {p : Part} {c : Curve} (h : CurveOk it p c) (q : Int) {x : Int → Int} (f : Fit x p) : V it x p.ms ≤ c.2.1 + conj c.2.2 q + q * (S x p.ms - p.lo) := by
  have h1 := h.up x f
  have h2 := f.sum
  have h3 := fst_le h.falls q (S x p.ms - p.lo) (by omega) (by rw [h.cap]; omega)
  omega
theorem CurvesOk.price {it : Int → Gs} (q : Int) {x : Int → Int} : ∀ {ps : List Part} {cs : List Curve}, CurvesOk it ps cs → Fits x ps → V it x (msOf ps) ≤ gainC cs + conj (flatC cs) q + q * (S x (msOf ps) - loOf ps)
  | _, _, .nil, _ => by simp [V, S, msOf, gainC, flatC, conj, loOf]
  | p :: ps, c :: cs, .cons h r, f => by
    unfold Fits at f
    have h1 := h.price q f.1
    have h2 := CurvesOk.price q r f.2
    simp only [msOf, V_app, S_app, gainC, flatC, conj_app, loOf]
    have e : q * (S x p.ms + S x (msOf ps) - (p.lo + loOf ps)) = q * (S x p.ms - p.lo) + q * (S x (msOf ps) - loOf ps) := by
      rw [← Int.mul_add]
      congr 1
      omega
    omega
theorem CurvesOk.sum {it : Int → Gs} {x : Int → Int} : ∀ {ps : List Part} {cs : List Curve}, CurvesOk it ps cs → Fits x ps → loOf ps ≤ S x (msOf ps) ∧ S x (msOf ps) ≤ hiOf ps
  | _, _, .nil, _ => by simp [S, msOf, loOf, hiOf]
  | p :: ps, c :: cs, .cons h r, f => by
    unfold Fits at f
    have h1 := f.1.sum
    have h2 := r.sum f.2
    simp only [msOf, S_app, loOf, hiOf]
    omega
def mix (ms : List Int) (x y : Int → Int) : Int → Int := fun i => if i ∈ ms then x i else y i
theorem mix_in {ms : List Int} {x y : Int → Int} {i : Int} (h : i ∈ ms) : mix ms x y i = x i := if_pos h
theorem mix_out {ms : List Int} {x y : Int → Int} {i : Int} (h : i ∉ ms) : mix ms x y i = y i := if_neg h
/-- at a price, all sums between those of the ends have a plan that loses nothing -/
theorem CurvesOk.reach {it : Int → Gs} (q : Int) : ∀ {ps : List Part} {cs : List Curve}, CurvesOk it ps cs → Goods it ps → (msOf ps).Nodup → ∀ u, loOf ps + from' (flatC cs) (q + 1) ≤ u → u ≤ loOf ps + from' (flatC cs) q →
    ∃ x, Fits x ps ∧ S x (msOf ps) = u ∧ V it x (msOf ps) = gainC cs + conj (flatC cs) q + q * (u - loOf ps)
  | _, _, .nil, _, _, u, h1, h2 => by
    simp only [loOf, flatC, from'] at h1 h2
    have : u = 0 := by omega
    subst this
    exact ⟨fun _ => 0, by unfold Fits; trivial, by simp [S, msOf], by simp [V, msOf, gainC, flatC, conj, loOf]⟩
  | p :: ps, c :: cs, .cons h r, g, nd, u, h1, h2 => by
    unfold Goods at g
    simp only [loOf, flatC, from_app] at h1 h2
    simp only [msOf] at nd
    obtain ⟨_, nd2, dj⟩ := List.nodup_append.mp nd
    have fl := h.falls
    have b1 := from_nonneg fl (q + 1)
    have b2 := from_le_cap fl q
    have b3 := from_anti fl (p := q) (q := q + 1) (by omega)
    have b4 : from' (flatC cs) (q + 1) ≤ from' (flatC cs) q := by
      have := from_anti (falls_joined r.pos) (p := q) (q := q + 1) (by omega)
      rwa [from_joined, from_joined] at this
    have hc := h.cap
    -- the first takes as much as it can
    obtain ⟨u1, e1⟩ : ∃ u1, u1 = min (p.lo + from' c.2.2 q) (u - (loOf ps + from' (flatC cs) (q + 1))) := ⟨_, rfl⟩
    obtain ⟨x1, f1, s1, v1⟩ := h.at_ u1 (by omega) (by omega)
    obtain ⟨x2, f2, s2, v2⟩ := CurvesOk.reach q r g.2 nd2 (u - u1) (by omega) (by omega)
    have o : ∀ i ∈ msOf ps, mix p.ms x1 x2 i = x2 i := fun i m => mix_out fun m2 => dj i m2 i m rfl
    have n : ∀ i ∈ p.ms, mix p.ms x1 x2 i = x1 i := fun i m => mix_in m
    refine ⟨mix p.ms x1 x2, ?_, ?_, ?_⟩
    · unfold Fits
      exact ⟨Fit.congr g.1 (fun i m => (n i m).symm) f1, Fits.congr g.2 (fun i m => (o i m).symm) f2⟩
    · simp only [msOf, S_app]
      rw [S_congr n, S_congr o, s1, s2]
      omega
    · simp only [msOf, V_app, gainC, flatC, conj_app, loOf]
      rw [V_congr n, V_congr o, v1, v2, fst_eq fl q (u1 - p.lo) (by omega) (by omega) (by omega) (by omega)]
      have e : q * (u - (p.lo + loOf ps)) = q * (u1 - p.lo) + q * (u - u1 - loOf ps) := by
        rw [← Int.mul_add]
        congr 1
        omega
      omega
/-- the curve of parts beside each other -/
theorem free_up {it : Int → Gs} {ps : List Part} {cs : List Curve} (h : CurvesOk it ps cs) {x : Int → Int} (f : Fits x ps) : V it x (msOf ps) ≤ gainC cs + fst' (joined (flatC cs)) (S x (msOf ps) - loOf ps) := by
  have fl := falls_joined h.pos
  have sm := h.sum f
  have hc := h.cap
  obtain ⟨q, q1, q2⟩ := price_at fl (S x (msOf ps) - loOf ps) (by omega) (by rw [cap_joined, hc]; omega)
  rw [fst_eq fl q _ (by omega) (by rw [cap_joined, hc]; omega) q1 q2, conj_joined]
  have := h.price q f
  omega
theorem free_at {it : Int → Gs} {ps : List Part} {cs : List Curve} (h : CurvesOk it ps cs) (g : Goods it ps) (nd : (msOf ps).Nodup) {u : Int} (h1 : loOf ps ≤ u) (h2 : u ≤ hiOf ps) :
    ∃ x, Fits x ps ∧ S x (msOf ps) = u ∧ V it x (msOf ps) = gainC cs + fst' (joined (flatC cs)) (u - loOf ps) := by
  have fl := falls_joined h.pos
  have hc := h.cap
  obtain ⟨q, q1, q2⟩ := price_at fl (u - loOf ps) (by omega) (by rw [cap_joined, hc]; omega)
  rw [fst_eq fl q _ (by omega) (by rw [cap_joined, hc]; omega) q1 q2, conj_joined]
  rw [from_joined] at q1 q2
  obtain ⟨x, f, s, v⟩ := h.reach q g nd u (by omega) (by omega)
  exact ⟨x, f, s, by omega⟩
theorem curve_ok' {it : Int → Gs} (n : Nat) : (∀ p : Part, sizeOf p < n → Good it p → CurveOk it p (curve it p)) ∧ (∀ ps : List Part, sizeOf ps < n → Goods it ps → CurvesOk it ps (curves it ps)) := by
  induction n with
  | zero => exact ⟨fun _ h => by omega, fun _ h => by omega⟩
  | succ n ih =>
    constructor
    · intro p hn g
      cases p with
      | mk a ms lo hi b c d ins =>
        unfold Good at g
        obtain ⟨nd, le, gl, gn, gi⟩ := g
        cases ins with
        | nil =>
          obtain ⟨i, rfl, rfl, rfl, fl⟩ := gl rfl
          have e : curve it (.mk a [i] 0 (cap (it i)) b c d []) = (0, 0, it i) := by simp [curve]
          rw [e]
          have s1 : ∀ x : Int → Int, S x [i] = x i := fun x => by simp [S]
          have v1 : ∀ x : Int → Int, V it x [i] = fst' (it i) (x i) := fun x => by simp [V]
          refine ⟨rfl, fl, by simp [Part.lo, Part.hi], fun x f => ?_, fun u h1 h2 => ?_⟩
          · simp only [Part.ms, Part.lo, s1, v1]
            simp
          · refine ⟨fun _ => u, ?_, ?_, ?_⟩
            · unfold Fit Fits
              rw [s1]
              exact ⟨⟨h1, h2⟩, trivial⟩
            · simp only [Part.ms, s1]
            · simp only [Part.ms, Part.lo, v1]
              simp
        | cons q qs =>
          obtain ⟨em, el, eh⟩ := gn (by simp)
          have cs := ih.2 (q :: qs) (by simp at hn ⊢; omega) gi
          generalize hq : q :: qs = ins at *
          have ne : ins.isEmpty = false := by rw [← hq]; rfl
          have e : curve it (.mk a ms lo hi b c d ins) = cutC lo hi (freeC (curves it ins)) := by simp [curve, ne]
          rw [e]
          have fl := falls_joined cs.pos
          have hl := cs.low
          have hc := cs.cap
          have hc' := cap_joined (flatC (curves it ins))
          have nd' : (msOf ins).Nodup := by rw [← em]; exact nd
          unfold cutC freeC
          simp only [hl]
          refine ⟨rfl, falls_btwn fl, ?_, fun x f => ?_, fun u h1 h2 => ?_⟩
          · simp only [Part.lo, Part.hi]
            rw [cap_btwn fl (by omega)]
            simp only [clip]
            omega
          · unfold Fit at f
            simp only [Part.ms, Part.lo]
            have := free_up cs f.2
            rw [← em] at this
            rw [fst_btwn fl _ (by omega) (by omega) (by omega) (by omega) (by omega)]
            have e1 : lo - loOf ins - 0 + (S x ms - lo) = S x ms - loOf ins := by omega
            have e2 : lo - loOf ins - 0 = lo - loOf ins := by omega
            rw [e1, e2]
            omega
          · simp only [Part.ms, Part.lo, Part.hi] at h1 h2 ⊢
            obtain ⟨x, f, s, v⟩ := free_at cs gi nd' (u := u) (by omega) (by omega)
            rw [← em] at s v
            refine ⟨x, ?_, s, ?_⟩
            · unfold Fit
              exact ⟨by omega, f⟩
            · rw [fst_btwn fl _ (by omega) (by omega) (by omega) (by omega) (by omega)]
              have e1 : lo - loOf ins - 0 + (u - lo) = u - loOf ins := by omega
              have e2 : lo - loOf ins - 0 = lo - loOf ins := by omega
              rw [e1, e2]
              omega
    · intro ps hn g
      cases ps with
      | nil => simp only [curves]; exact .nil
      | cons p ps =>
        unfold Goods at g
        have hp : 0 < sizeOf ps := by cases ps <;> simp <;> omega
        simp only [curves]
        exact .cons (ih.1 p (by simp at hn; omega) g.1) (ih.2 ps (by simp at hn; omega) g.2)
theorem curve_ok {it : Int → Gs} {p : Part} (g : Good it p) : CurveOk it p (curve it p) := (curve_ok' (sizeOf p + 1)).1 p (by omega) g
theorem curves_ok {it : Int → Gs} {ps : List Part} (g : Goods it ps) : CurvesOk it ps (curves it ps) := (curve_ok' (sizeOf ps + 1)).2 ps (by omega) g
end GC

/-! T4: spans: where the best plans are. -/
namespace GC
inductive Span where
  | mk (num : Option Int) (ms : List Int) (lo hi : Int) (pr : Int) (ins : List Span)
namespace Span
def num : Span → Option Int | mk n _ _ _ _ _ => n
def ms : Span → List Int | mk _ m _ _ _ _ => m
def lo : Span → Int | mk _ _ l _ _ _ => l
def hi : Span → Int | mk _ _ _ h _ _ => h
def pr : Span → Int | mk _ _ _ _ p _ => p
def ins : Span → List Span | mk _ _ _ _ _ i => i
end Span
def priceIn (lo hi : Int) (f : Curve) (p : Int) : Int :=
  if hi < f.1 + from' f.2.2 (p + 1) then unit f.2.2 (hi - f.1) else if f.1 + from' f.2.2 p < lo then unit f.2.2 (lo - f.1 - 1) else p
mutual
def spanOf (it : Int → Gs) : Part → Int → Span
  | .mk num ms lo hi _ _ _ ins, p => if ins.isEmpty then .mk num ms (from' (it (ms.headD 0)) (p + 1)) (from' (it (ms.headD 0)) p) 0 [] else
    .mk num ms (if 0 < priceIn lo hi (freeC (curves it ins)) p - p then hi else lo) (if priceIn lo hi (freeC (curves it ins)) p - p < 0 then lo else hi) (priceIn lo hi (freeC (curves it ins)) p - p) (spansOf it ins (priceIn lo hi (freeC (curves it ins)) p))
def spansOf (it : Int → Gs) : List Part → Int → List Span
  | [], _ => []
  | q :: ps, p => spanOf it q p :: spansOf it ps p
end
mutual
def Holds (x : Int → Int) : Span → Prop
  | .mk _ ms lo hi _ ins => (lo ≤ S x ms ∧ S x ms ≤ hi) ∧ HoldsAll x ins
def HoldsAll (x : Int → Int) : List Span → Prop
  | [] => True
  | p :: ps => Holds x p ∧ HoldsAll x ps
end
/-- what the best lose at a price -/
def top (c : Curve) (p : Int) (lo : Int) : Int := c.2.1 + conj c.2.2 p - p * lo
structure SpanOk (it : Int → Gs) (p : Part) (q : Int) (s : Span) : Prop where
  ms : s.ms = p.ms
  iff : ∀ x, Holds x s ↔ Fit x p ∧ V it x p.ms - q * S x p.ms = top (curve it p) q p.lo
  ex : ∃ x, Holds x s
inductive SpansOk (it : Int → Gs) (q : Int) : List Part → List Span → Prop
  | nil : SpansOk it q [] []
  | cons {p : Part} {ps : List Part} {s : Span} {ss : List Span} : SpanOk it p q s → SpansOk it q ps ss → SpansOk it q (p :: ps) (s :: ss)
def topAll (cs : List Curve) (p : Int) (lo : Int) : Int := gainC cs + conj (flatC cs) p - p * lo
theorem top_le {it : Int → Gs} {p : Part} (g : Good it p) (q : Int) {x : Int → Int} (f : Fit x p) : V it x p.ms - q * S x p.ms ≤ top (curve it p) q p.lo := by
  have := (curve_ok g).price q f
  unfold top
  have e : q * (S x p.ms - p.lo) = q * S x p.ms - q * p.lo := Int.mul_sub ..
  omega
theorem top_ex {it : Int → Gs} {p : Part} (g : Good it p) (q : Int) : ∃ x, Fit x p ∧ V it x p.ms - q * S x p.ms = top (curve it p) q p.lo := by
  have c := curve_ok g
  have b1 := from_nonneg c.falls q
  have b2 := from_le_cap c.falls q
  have b3 := from_anti c.falls (p := q) (q := q + 1) (by omega)
  have b4 := c.cap
  obtain ⟨x, f, s, v⟩ := c.at_ (p.lo + from' (curve it p).2.2 q) (by omega) (by omega)
  refine ⟨x, f, ?_⟩
  rw [fst_eq c.falls q _ (by omega) (by omega) (by omega) (by omega)] at v
  unfold top
  rw [s, v]
  have e : q * (p.lo + from' (curve it p).2.2 q - p.lo) = q * (p.lo + from' (curve it p).2.2 q) - q * p.lo := Int.mul_sub ..
  omega
theorem tops_le {it : Int → Gs} {ps : List Part} (g : Goods it ps) (q : Int) {x : Int → Int} (f : Fits x ps) : V it x (msOf ps) - q * S x (msOf ps) ≤ topAll (curves it ps) q (loOf ps) := by
  have := (curves_ok g).price q f
  unfold topAll
  have e : q * (S x (msOf ps) - loOf ps) = q * S x (msOf ps) - q * loOf ps := Int.mul_sub ..
  omega
theorem SpansOk.iff {it : Int → Gs} {q : Int} {x : Int → Int} : ∀ {ps : List Part} {ss : List Span}, SpansOk it q ps ss → Goods it ps → (HoldsAll x ss ↔ Fits x ps ∧ V it x (msOf ps) - q * S x (msOf ps) = topAll (curves it ps) q (loOf ps))
  | _, _, .nil, _ => by simp [HoldsAll, Fits, msOf, S, V, topAll, curves, gainC, flatC, conj, loOf]
  | p :: ps, s :: ss, .cons h r, g => by
    unfold Goods at g
    unfold HoldsAll Fits
    rw [h.iff, SpansOk.iff r g.2]
    simp only [msOf, V_app, S_app, Int.mul_add]
    have e : topAll (curves it (p :: ps)) q (loOf (p :: ps)) = top (curve it p) q p.lo + topAll (curves it ps) q (loOf ps) := by
      simp only [topAll, top, curves, gainC, flatC, conj_app, loOf, Int.mul_add]
      omega
    rw [e]
    constructor
    · rintro ⟨⟨a, b⟩, c, d⟩
      exact ⟨⟨a, c⟩, by omega⟩
    · rintro ⟨⟨a, c⟩, e⟩
      have l1 := top_le g.1 q a
      have l2 := tops_le g.2 q c
      exact ⟨⟨a, by omega⟩, c, by omega⟩
theorem span_ok' {it : Int → Gs} (n : Nat) : (∀ p : Part, sizeOf p < n → Good it p → ∀ q, SpanOk it p q (spanOf it p q)) ∧ (∀ ps : List Part, sizeOf ps < n → Goods it ps → ∀ q, SpansOk it q ps (spansOf it ps q)) := by
  induction n with
  | zero => exact ⟨fun _ h => by omega, fun _ h => by omega⟩
  | succ n ih =>
    constructor
    · intro p hn g q
      have gg := g
      cases p with
      | mk a ms lo hi b c d ins =>
        unfold Good at g
        obtain ⟨nd, le, gl, gn, gi⟩ := g
        cases ins with
        | nil =>
          obtain ⟨i, rfl, rfl, rfl, fl⟩ := gl rfl
          have e : spanOf it (.mk a [i] 0 (cap (it i)) b c d []) q = .mk a [i] (from' (it i) (q + 1)) (from' (it i) q) 0 [] := by simp [spanOf]
          have e2 : curve it (.mk a [i] 0 (cap (it i)) b c d []) = (0, 0, it i) := by simp [curve]
          have s1 : ∀ x : Int → Int, S x [i] = x i := fun x => by simp [S]
          have v1 : ∀ x : Int → Int, V it x [i] = fst' (it i) (x i) := fun x => by simp [V]
          have b1 := from_nonneg fl (q + 1)
          have b2 := from_le_cap fl q
          have b3 := from_anti fl (p := q) (q := q + 1) (by omega)
          have iff : ∀ x, Holds x (.mk a [i] (from' (it i) (q + 1)) (from' (it i) q) 0 []) ↔ Fit x (.mk a [i] 0 (cap (it i)) b c d []) ∧ V it x [i] - q * S x [i] = top (0, 0, it i) q 0 := fun x => by
            unfold Holds HoldsAll Fit Fits top
            rw [s1, v1]
            simp only [and_true]
            constructor
            · rintro ⟨h1, h2⟩
              have := fst_eq fl q (x i) (by omega) (by omega) h1 h2
              refine ⟨⟨by omega, by omega⟩, ?_⟩
              omega
            · rintro ⟨⟨h1, h2⟩, h3⟩
              exact fst_lt fl q (x i) h1 h2 (by omega)
          rw [e]
          refine ⟨rfl, fun x => by rw [e2]; exact iff x, fun _ => from' (it i) q, ?_⟩
          unfold Holds HoldsAll
          rw [s1]
          exact ⟨⟨b3, Int.le_refl _⟩, trivial⟩
        | cons r rs =>
          obtain ⟨em, el, eh⟩ := gn (by simp)
          have sp := ih.2 (r :: rs) (by simp at hn ⊢; omega) gi
          generalize hq : r :: rs = ins at *
          have ne : ins.isEmpty = false := by rw [← hq]; rfl
          have cs := curves_ok gi
          have fl := falls_joined cs.pos
          have hl := cs.low
          have hc := cs.cap
          have hc' := cap_joined (flatC (curves it ins))
          have nd' : (msOf ins).Nodup := by rw [← em]; exact nd
          obtain ⟨k, hk⟩ : ∃ k, k = priceIn lo hi (freeC (curves it ins)) q := ⟨_, rfl⟩
          have e : spanOf it (.mk a ms lo hi b c d ins) q = .mk a ms (if 0 < k - q then hi else lo) (if k - q < 0 then lo else hi) (k - q) (spansOf it ins k) := by simp [spanOf, ne, ← hk]
          have sk := sp k
          -- the end at the price
          obtain ⟨z, hz⟩ : ∃ z, z = if 0 < k - q then hi else lo := ⟨_, rfl⟩
          have cases' : ∃ u, lo ≤ u ∧ u ≤ hi ∧ (0 < k - q → u = hi) ∧ (k - q < 0 → u = lo) ∧ loOf ins + from' (flatC (curves it ins)) (k + 1) ≤ u ∧ u ≤ loOf ins + from' (flatC (curves it ins)) k := by
            have fj := fun p => from_joined p (flatC (curves it ins))
            unfold priceIn freeC at hk
            simp only [hl] at hk
            split at hk
            · rename_i h1
              have h1' := from_le_cap fl (q + 1)
              obtain ⟨_, o1, o2⟩ := unit_ok fl (i := hi - loOf ins) (by omega) (by omega)
              rw [← hk, fj] at o1 o2
              have : q < k := by
                refine Int.not_le.mp fun hle => ?_
                have := from_anti fl (p := k + 1) (q := q + 1) (by omega)
                rw [fj, fj] at this
                rw [fj] at h1
                omega
              exact ⟨hi, le, Int.le_refl _, fun _ => rfl, fun h => by omega, by omega, by omega⟩
            · split at hk
              · rename_i h1 h2
                have h2' := from_nonneg fl q
                obtain ⟨_, o1, o2⟩ := unit_ok fl (i := lo - loOf ins - 1) (by omega) (by omega)
                rw [← hk, fj] at o1 o2
                have : k < q := by
                  refine Int.not_le.mp fun hle => ?_
                  have := from_anti fl (p := q) (q := k) hle
                  rw [fj, fj] at this
                  rw [fj] at h2
                  omega
                exact ⟨lo, Int.le_refl _, le, fun h => by omega, fun _ => rfl, by omega, by omega⟩
              · rename_i h1 h2
                subst hk
                rw [fj] at h1 h2
                have := from_anti fl (p := k) (q := k + 1) (by omega)
                rw [fj, fj] at this
                have b1 := from_nonneg fl (k + 1)
                have b2 := from_le_cap fl k
                rw [fj] at b1 b2
                exact ⟨max lo (loOf ins + from' (flatC (curves it ins)) (k + 1)), by omega, by omega, fun h => by omega, fun h => by omega, by omega, by omega⟩
          obtain ⟨u, u1, u2, u3, u4, u5, u6⟩ := cases'
          obtain ⟨x0, f0, s0, v0⟩ := cs.reach k gi nd' u u5 u6
          rw [← em] at s0 v0
          have t0 : V it x0 ms - k * S x0 ms = topAll (curves it ins) k (loOf ins) := by
            rw [v0, s0]
            unfold topAll
            have : k * (u - loOf ins) = k * u - k * loOf ins := Int.mul_sub ..
            omega
          have F0 : Fit x0 (.mk a ms lo hi b c d ins) := by
            unfold Fit
            exact ⟨by omega, f0⟩
          -- what all lose, by the inner price
          have split' : ∀ x : Int → Int, V it x ms - q * S x ms = (V it x ms - k * S x ms) + (k - q) * S x ms := fun x => by
            rw [Int.sub_mul]
            omega
          have bound : ∀ w : Int, lo ≤ w → w ≤ hi → (k - q) * w ≤ (k - q) * u ∧ ((k - q) * w = (k - q) * u → (0 < k - q → w = hi) ∧ (k - q < 0 → w = lo)) := fun w w1 w2 => by
            by_cases p1 : 0 < k - q
            · rw [u3 p1]
              have := Int.mul_nonneg (a := k - q) (b := hi - w) (by omega) (by omega)
              have e1 : (k - q) * (hi - w) = (k - q) * hi - (k - q) * w := Int.mul_sub ..
              refine ⟨by omega, fun e2 => ⟨fun _ => ?_, fun h => by omega⟩⟩
              have : (k - q) * (hi - w) = 0 := by omega
              rcases Int.mul_eq_zero.mp this with h | h <;> omega
            · by_cases p2 : k - q < 0
              · rw [u4 p2]
                have := Int.mul_nonneg (a := q - k) (b := w - lo) (by omega) (by omega)
                have e1 : (k - q) * (w - lo) = (k - q) * w - (k - q) * lo := Int.mul_sub ..
                have e3 : (k - q) * (w - lo) = - ((q - k) * (w - lo)) := by rw [← Int.neg_mul]; congr 1; omega
                refine ⟨by omega, fun e2 => ⟨fun h => by omega, fun _ => ?_⟩⟩
                have : (q - k) * (w - lo) = 0 := by omega
                rcases Int.mul_eq_zero.mp this with h | h <;> omega
              · have : k - q = 0 := by omega
                rw [this]
                exact ⟨by omega, fun _ => ⟨fun h => by omega, fun h => by omega⟩⟩
          have V0 : V it x0 ms - q * S x0 ms = topAll (curves it ins) k (loOf ins) + (k - q) * u := by
            rw [split', t0, s0]
          have T : top (curve it (.mk a ms lo hi b c d ins)) q lo = topAll (curves it ins) k (loOf ins) + (k - q) * u := by
            have l1 := top_le gg q F0
            obtain ⟨x1, f1, e1⟩ := top_ex gg q
            unfold Fit at f1
            have l2 := tops_le gi k f1.2
            rw [← em] at l2
            have l3 := (bound (S x1 ms) f1.1.1 f1.1.2).1
            have l4 := split' x1
            simp only [Part.ms, Part.lo] at l1 e1
            omega
          have iff : ∀ x, Holds x (.mk a ms (if 0 < k - q then hi else lo) (if k - q < 0 then lo else hi) (k - q) (spansOf it ins k)) ↔ Fit x (.mk a ms lo hi b c d ins) ∧ V it x ms - q * S x ms = top (curve it (.mk a ms lo hi b c d ins)) q lo := fun x => by
            unfold Holds Fit
            rw [sk.iff gi, T, ← em, split']
            constructor
            · rintro ⟨⟨h1, h2⟩, h3, h4⟩
              have a1 : lo ≤ S x ms ∧ S x ms ≤ hi := by
                split at h1 <;> split at h2 <;> omega
              refine ⟨⟨a1, h3⟩, ?_⟩
              rw [h4]
              by_cases p1 : 0 < k - q
              · rw [if_pos p1] at h1
                have : S x ms = u := by have := u3 p1; omega
                rw [this]
              · by_cases p2 : k - q < 0
                · rw [if_pos p2] at h2
                  have : S x ms = u := by have := u4 p2; omega
                  rw [this]
                · have : k - q = 0 := by omega
                  rw [this]
                  omega
            · rintro ⟨⟨h1, h3⟩, h4⟩
              have l2 := tops_le gi k h3
              rw [← em] at l2
              have l3 := bound (S x ms) h1.1 h1.2
              have e1 : (k - q) * S x ms = (k - q) * u := by omega
              obtain ⟨m1, m2⟩ := l3.2 e1
              refine ⟨⟨?_, ?_⟩, h3, by omega⟩
              · split
                · rename_i p1
                  rw [m1 p1]
                  exact Int.le_refl _
                · exact h1.1
              · split
                · rename_i p1
                  rw [m2 p1]
                  exact Int.le_refl _
                · exact h1.2
          rw [e]
          refine ⟨rfl, fun x => iff x, x0, (iff x0).mpr ⟨F0, ?_⟩⟩
          rw [T, V0]
    · intro ps hn g q
      cases ps with
      | nil => simp only [spansOf]; exact .nil
      | cons p ps =>
        unfold Goods at g
        have hp : 0 < sizeOf ps := by cases ps <;> simp <;> omega
        simp only [spansOf]
        exact .cons (ih.1 p (by simp at hn; omega) g.1 q) (ih.2 ps (by simp at hn; omega) g.2 q)
theorem span_ok {it : Int → Gs} {p : Part} (g : Good it p) (q : Int) : SpanOk it p q (spanOf it p q) := (span_ok' (sizeOf p + 1)).1 p (by omega) g q
end GC

/-! T5: ascending lists, families that never cross. -/
namespace GC
abbrev Asc (l : List Int) : Prop := l.Pairwise (· < ·)
theorem Asc.nodup {l : List Int} (h : Asc l) : l.Nodup := h.imp fun {a b} h => by omega
theorem erase_perm {A : Type} : ∀ {l : List A} {i : Nat} (h : i < l.length), (l[i] :: l.eraseIdx i).Perm l
  | a :: r, 0, _ => .refl _
  | a :: r, i + 1, h => by
    simp only [List.getElem_cons_succ, List.eraseIdx_cons_succ]
    exact (List.Perm.swap _ _ _).trans ((erase_perm (l := r) (i := i) (by simpa using h)).cons a)
theorem nodup_len : ∀ {a b : List Int}, a.Nodup → (∀ x ∈ a, x ∈ b) → a.length ≤ b.length
  | [], _, _, _ => Nat.zero_le _
  | x :: a, b, h, k => by
    obtain ⟨h1, h2⟩ := List.nodup_cons.mp h
    have hx := k x (List.mem_cons_self ..)
    have := nodup_len (a := a) (b := b.erase x) h2 fun y m => (List.mem_erase_of_ne (fun e : y = x => h1 (by rw [← e]; exact m))).mpr (k y (List.mem_cons_of_mem _ m))
    rw [List.length_erase_of_mem hx] at this
    have : 0 < b.length := List.length_pos_of_mem hx
    simp only [List.length_cons]
    omega
def Sub (a b : List Int) : Prop := ∀ x ∈ a, x ∈ b
def Disj (a b : List Int) : Prop := ∀ x ∈ a, x ∉ b
/-- not the same, not crossing -/
def Compat (a b : List Int) : Prop := Disj a b ∨ (Sub a b ∧ a.length < b.length) ∨ (Sub b a ∧ b.length < a.length)
theorem Disj.symm {a b : List Int} (h : Disj a b) : Disj b a := fun x m n => h x n m
theorem Compat.symm {a b : List Int} (h : Compat a b) : Compat b a := by
  rcases h with h | h | h
  · exact .inl h.symm
  · exact .inr (.inr h)
  · exact .inr (.inl h)
def rangeI (n : Nat) : List Int := (List.range n).map fun (k : Nat) => (k : Int)
theorem rangeI_nodup (n : Nat) : (rangeI n).Nodup := by
  unfold rangeI
  refine List.Pairwise.map _ ?_ (List.nodup_range (n := n))
  intro a b h e
  exact h (Int.ofNat.inj e)
theorem rangeI_len (n : Nat) : (rangeI n).length = n := by simp [rangeI]
theorem mem_rangeI {n : Nat} {x : Int} : x ∈ rangeI n ↔ 0 ≤ x ∧ x < n := by
  unfold rangeI
  rw [List.mem_map]
  constructor
  · rintro ⟨k, m, rfl⟩
    have := List.mem_range.mp m
    omega
  · rintro ⟨h1, h2⟩
    exact ⟨x.toNat, List.mem_range.mpr (by omega), by omega⟩
/-- blocks that are all numbers below n, each once; what was found lies in blocks and does not cross -/
structure Blocks (n : Nat) (bs : List (List Int)) : Prop where
  asc : ∀ b ∈ bs, Asc b ∧ b ≠ []
  all : bs.flatten.Perm (rangeI n)
structure Found (bs fs : List (List Int)) : Prop where
  asc : ∀ f ∈ fs, Asc f ∧ f ≠ []
  sub : ∀ f ∈ fs, ∃ b ∈ bs, Sub f b
  pw : fs.Pairwise Compat
theorem Blocks.nodup {n : Nat} {bs : List (List Int)} (h : Blocks n bs) : bs.flatten.Nodup := h.all.nodup_iff.mpr (rangeI_nodup n)
theorem Blocks.perm {n : Nat} {bs cs : List (List Int)} (h : Blocks n bs) (p : cs.Perm bs) : Blocks n cs := ⟨fun b m => h.asc b (p.subset m), p.flatten.trans h.all⟩
theorem Found.perm {bs cs fs : List (List Int)} (h : Found bs fs) (p : cs.Perm bs) : Found cs fs := ⟨h.asc, fun f m => by
  obtain ⟨b, mb, s⟩ := h.sub f m
  exact ⟨b, p.symm.subset mb, s⟩, h.pw⟩
theorem Blocks.len {n : Nat} {bs : List (List Int)} (h : Blocks n bs) {b : List Int} (m : b ∈ bs) : b.length ≤ n := by
  have := nodup_len (b := rangeI n) (h.asc b m).1.nodup fun x mx => h.all.subset (List.mem_flatten.mpr ⟨b, m, mx⟩)
  rwa [rangeI_len] at this
theorem Blocks.count {n : Nat} {bs : List (List Int)} (h : Blocks n bs) : bs.length ≤ n := by
  have e := h.all.length_eq
  rw [rangeI_len, List.length_flatten] at e
  have : ∀ bs : List (List Int), (∀ b ∈ bs, b ≠ []) → bs.length ≤ (bs.map List.length).sum := by
    intro bs
    induction bs with
    | nil => simp
    | cons b r ih =>
      intro h
      have := ih fun x m => h x (List.mem_cons_of_mem _ m)
      have h0 : 0 < b.length := List.length_pos_iff.mpr (h b (List.mem_cons_self ..))
      simp only [List.length_cons, List.map_cons, List.sum_cons]
      omega
  have := this bs fun b m => (h.asc b m).2
  omega
theorem Blocks.in_ {n : Nat} {bs : List (List Int)} (h : Blocks n bs) {b : List Int} (m : b ∈ bs) {x : Int} (mx : x ∈ b) : 0 ≤ x ∧ x < n :=
  mem_rangeI.mp (h.all.subset (List.mem_flatten.mpr ⟨b, m, mx⟩))
/-- two blocks become one -/
theorem Blocks.merge {n : Nat} {a b m : List Int} {bs : List (List Int)} (h : Blocks n (a :: b :: bs)) (p : m.Perm (a ++ b)) (am : Asc m) : Blocks n (bs ++ [m]) where
  asc := fun c mc => by
    rcases List.mem_append.mp mc with mc | mc
    · exact h.asc c (by simp [mc])
    · rw [List.mem_singleton] at mc
      subst mc
      refine ⟨am, fun e => ?_⟩
      subst e
      have := p.symm.length_eq
      have h0 := (h.asc a (by simp)).2
      simp at this
      exact h0 this.1
  all := by
    refine List.Perm.trans ?_ h.all
    simp only [List.flatten_append, List.flatten_cons, List.flatten_nil, List.append_nil]
    refine (List.perm_append_comm).trans ?_
    rw [← List.append_assoc]
    exact p.append_right _
theorem Found.merge {n : Nat} {a b m : List Int} {bs fs : List (List Int)} (h : Blocks n (a :: b :: bs)) (k : Found (a :: b :: bs) fs) (p : m.Perm (a ++ b)) : Found (bs ++ [m]) fs :=
  ⟨k.asc, fun f mf => by
    obtain ⟨c, mc, s⟩ := k.sub f mf
    simp only [List.mem_cons] at mc
    rcases mc with rfl | rfl | mc
    · exact ⟨m, by simp, fun x mx => p.symm.subset (List.mem_append_left _ (s x mx))⟩
    · exact ⟨m, by simp, fun x mx => p.symm.subset (List.mem_append_right _ (s x mx))⟩
    · exact ⟨c, by simp [mc], s⟩, k.pw⟩
/-- the new block is found -/
theorem Found.more {n : Nat} {a b m : List Int} {bs fs : List (List Int)} (h : Blocks n (a :: b :: bs)) (k : Found (a :: b :: bs) fs) (p : m.Perm (a ++ b)) (am : Asc m) : Found (bs ++ [m]) (fs ++ [m]) := by
  have k2 := Found.merge h k p
  have h2 := h.merge p am
  have pa : 0 < a.length := List.length_pos_iff.mpr (h.asc a (by simp)).2
  have pb : 0 < b.length := List.length_pos_iff.mpr (h.asc b (by simp)).2
  have pl := p.length_eq
  rw [List.length_append] at pl
  refine ⟨fun f mf => ?_, fun f mf => ?_, ?_⟩
  · rcases List.mem_append.mp mf with mf | mf
    · exact k.asc f mf
    · rw [List.mem_singleton] at mf
      subst mf
      exact h2.asc f (by simp)
  · rcases List.mem_append.mp mf with mf | mf
    · exact k2.sub f mf
    · rw [List.mem_singleton] at mf
      subst mf
      exact ⟨f, by simp, fun x m => m⟩
  · refine List.pairwise_append.mpr ⟨k.pw, by simp, fun f mf c mc => ?_⟩
    rw [List.mem_singleton] at mc
    subst mc
    obtain ⟨d, md, s⟩ := k.sub f mf
    have fl := nodup_len (k.asc f mf).1.nodup s
    simp only [List.mem_cons] at md
    rcases md with rfl | rfl | md
    · exact .inr (.inl ⟨fun x mx => p.symm.subset (List.mem_append_left _ (s x mx)), by omega⟩)
    · exact .inr (.inl ⟨fun x mx => p.symm.subset (List.mem_append_right _ (s x mx)), by omega⟩)
    · refine .inl fun x mx mc => ?_
      have nd := h.nodup
      simp only [List.flatten_cons] at nd
      rw [← List.append_assoc] at nd
      have := (List.nodup_append.mp nd).2.2 x (p.subset mc) x (List.mem_flatten.mpr ⟨d, md, s x mx⟩)
      exact this rfl
def singles (n : Nat) : List (List Int) := (rangeI n).map fun k => [k]
theorem singles_blocks (n : Nat) : Blocks n (singles n) where
  asc := fun b m => by
    obtain ⟨k, _, rfl⟩ := List.mem_map.mp m
    exact ⟨by simp, by simp⟩
  all := by
    have : (singles n).flatten = rangeI n := by
      unfold singles
      induction rangeI n with
      | nil => rfl
      | cons a r ih => simp [ih]
    rw [this]
theorem singles_found {n : Nat} {fs : List (List Int)} (h : fs.Sublist (singles n)) : Found (singles n) fs where
  asc := fun f m => (singles_blocks n).asc f (h.subset m)
  sub := fun f m => ⟨f, h.subset m, fun x m => m⟩
  pw := by
    refine List.Pairwise.sublist h ?_
    unfold singles
    refine List.Pairwise.map _ ?_ (rangeI_nodup n)
    intro a b e
    exact .inl fun x m m2 => by
      rw [List.mem_singleton] at m m2
      exact e (m.symm.trans m2)
end GC

/-! L3: systems as laws draw them. -/
namespace FD
open PySem PySem.Spec PyProof.Rows L2
noncomputable def fb_q_gains : SF DS := (seqF (parNF 3 4 (binF subD (ucallF FF_q_next (consA (varF 0) (consA (conF (.int 9)) nilA))) (conF (.int 1))))
  (seqF (forF (callI rng1D (consA (ucallF FF_q_next (consA (varF 0) (consA (binF addD (varF 2) (conF (.int 1))) nilA))) nilA)) (nameG 5) (seqF (dropF (mutF 4 appD (consA (tupF (consA (binF addD (conF (.int 1)) (ucallF FF_q_next (consA (varF 0) (consA (varF 1) nilA)))) (consA (varF 3) nilA))) nilA)))
  (setF 3 (binF subD (binF subD (varF 3) (conF (.int 1))) (ucallF FF_q_next (consA (varF 0) (consA (conF (.int 3)) nilA)))))))
  (retF (callF tupleD (consA (varF 4) nilA)))))
noncomputable def FF_q_gains : FF DS := runF 6 3 fb_q_gains
theorem len_q_gains {ds : List D} {t : DS} {o : FOut × DS} (h : FF_q_gains ds t = some o) : ds.length = 3 := runF_len h

noncomputable def fb_q_capacity : SF DS := (retF (callF sumD (consA (lcF [] [1, 2] (seqI (varF 0)) (tupG 2 (consG (nameG 1) (consG (nameG 2) nilG))) yesF (varF 1)) nilA)))
noncomputable def FF_q_capacity : FF DS := runF 3 1 fb_q_capacity
theorem len_q_capacity {ds : List D} {t : DS} {o : FOut × DS} (h : FF_q_capacity ds t = some o) : ds.length = 1 := runF_len h

noncomputable def fb_q_family : SF DS := (seqF (parNF 2 3 (lcF [] [7] (callI rng1D (consA (varF 1) nilA)) (nameG 7) yesF (tupF (consA (varF 7) nilA))))
  (seqF (forF (seqI (callF listD (consA (varF 2) nilA))) (nameG 4) (ifF (binF eqD (ucallF FF_q_next (consA (varF 0) (consA (conF (.int 5)) nilA))) (conF (.int 0))) (dropF (mutF 3 appD (consA (varF 4) nilA))) nxF))
  (seqF (whileF (andF (binF gtD (callF lenD (consA (varF 2) nilA)) (conF (.int 1))) (binF gtD (ucallF FF_q_next (consA (varF 0) (consA (conF (.int 6)) nilA))) (conF (.int 0)))) (seqF (setF 5 (mutF 2 popD (consA (ucallF FF_q_next (consA (varF 0) (consA (callF lenD (consA (varF 2) nilA)) nilA))) nilA)))
  (seqF (setF 6 (mutF 2 popD (consA (ucallF FF_q_next (consA (varF 0) (consA (callF lenD (consA (varF 2) nilA)) nilA))) nilA)))
  (seqF (dropF (mutF 2 appD (consA (callF tupleD (consA (callF sortD (consA (binF addD (varF 5) (varF 6)) nilA)) nilA)) nilA)))
  (ifF (binF gtD (ucallF FF_q_next (consA (varF 0) (consA (conF (.int 4)) nilA))) (conF (.int 0))) (dropF (mutF 3 appD (consA (binF ixD (varF 2) (unF negD (conF (.int 1)))) nilA))) nxF)))))
  (retF (slF true false (varF 3) (unF negD (conF (.int 8))) (conF .non))))))
noncomputable def FF_q_family : FF DS := runF 8 2 fb_q_family
theorem len_q_family {ds : List D} {t : DS} {o : FOut × DS} (h : FF_q_family ds t = some o) : ds.length = 2 := runF_len h

noncomputable def fb_q_limits : SF DS := (seqF (parF 1 3 (callF min2D (consA (varF 1) (consA (binF powD (conF (.int 10)) (conF (.int 12))) nilA))) (ucallF FF_q_next (consA (varF 0) (consA (conF (.int 6)) nilA))))
  (seqF (ifF (binF eqD (varF 3) (conF (.int 0))) (seqF (setF 4 (ucallF FF_q_next (consA (varF 0) (consA (binF addD (callF min2D (consA (varF 2) (consA (binF powD (conF (.int 10)) (conF (.int 12))) nilA))) (conF (.int 1))) nilA))))
  (retF (tupF (consA (varF 4) (consA (callF min2D (consA (binF powD (conF (.int 10)) (conF (.int 12))) (consA (binF addD (varF 4) (ucallF FF_q_next (consA (varF 0) (consA (conF (.int 4)) nilA)))) nilA))) nilA))))) nxF)
  (seqF (parF 4 5 (callF max2D (consA (conF (.int 0)) (consA (binF subD (varF 1) (ucallF FF_q_next (consA (varF 0) (consA (conF (.int 3)) nilA)))) nilA))) (callF min2D (consA (binF powD (conF (.int 10)) (conF (.int 12))) (consA (binF addD (varF 1) (ucallF FF_q_next (consA (varF 0) (consA (conF (.int 3)) nilA)))) nilA))))
  (retF (binF ixD (lstF (consA (tupF (consA (conF (.int 0)) (consA (varF 1) nilA))) (consA (tupF (consA (varF 1) (consA (varF 1) nilA))) (consA (tupF (consA (varF 4) (consA (varF 5) nilA))) (consA (tupF (consA (conF (.int 0)) (consA (varF 5) nilA))) (consA (tupF (consA (varF 4) (consA (binF powD (conF (.int 10)) (conF (.int 12))) nilA))) nilA)))))) (binF subD (varF 3) (conF (.int 1))))))))
noncomputable def FF_q_limits : FF DS := runF 6 3 fb_q_limits
theorem len_q_limits {ds : List D} {t : DS} {o : FOut × DS} (h : FF_q_limits ds t = some o) : ds.length = 3 := runF_len h

noncomputable def fb_q_system : SF DS := (seqF (setF 4 (callF tupleD (consA (lcF [0, 1, 3] [11] (callI rng1D (consA (binF addD (conF (.int 1)) (ucallF FF_q_next (consA (varF 0) (consA (varF 2) nilA)))) nilA)) (nameG 11) yesF (ucallF FF_q_gains (consA (varF 0) (consA (varF 1) (consA (varF 3) nilA))))) nilA)))
  (seqF (parBF 5 6 (lcF [0] [12] (seqI (varF 4)) (nameG 12) yesF (ucallF FF_q_next (consA (varF 0) (consA (binF addD (ucallF FF_q_capacity (consA (varF 12) nilA)) (conF (.int 1))) nilA)))) (lstF nilA))
  (seqF (forF (seqI (ucallF FF_q_family (consA (varF 0) (consA (callF lenD (consA (varF 4) nilA)) nilA)))) (nameG 7) (seqF (setF 8 (callF sumD (consA (lcF [4] [11] (seqI (varF 7)) (nameG 11) yesF (ucallF FF_q_capacity (consA (binF ixD (varF 4) (varF 11)) nilA))) nilA)))
  (seqF (asgF (tupG 2 (consG (nameG 9) (consG (nameG 10) nilG))) (ucallF FF_q_limits (consA (varF 0) (consA (callF sumD (consA (lcF [5] [11] (seqI (varF 7)) (nameG 11) yesF (binF ixD (varF 5) (varF 11))) nilA)) (consA (varF 8) nilA)))))
  (dropF (mutF 6 appD (consA (tupF (consA (varF 7) (consA (varF 9) (consA (varF 10) nilA)))) nilA))))))
  (retF (tupF (consA (varF 4) (consA (callF tupleD (consA (varF 6) nilA)) nilA)))))))
noncomputable def FF_q_system : FF DS := runF 13 4 fb_q_system
theorem len_q_system {ds : List D} {t : DS} {o : FOut × DS} (h : FF_q_system ds t = some o) : ds.length = 4 := runF_len h

/-! ### systems -/
def stD (s : Int × Int) : D := .tup [.int s.1, .int s.2]
def gD (g : GC.Gs) : D := .tup (g.map stD)
structure Grp where
  ms : List Int
  lo : Int
  hi : Int
def grD (g : Grp) : D := .tup [tpI g.ms, .int g.lo, .int g.hi]
structure Sys where
  items : List GC.Gs
  groups : List Grp
def syD (s : Sys) : D := .tup [.tup (s.items.map gD), .tup (s.groups.map grD)]
theorem falls_snoc {c a : Int} (hc : 0 < c) : ∀ {g : GC.Gs}, GC.Falls g → (∀ x ∈ g, a < x.2) → GC.Falls (g ++ [(c, a)])
  | [], _, _ => ⟨hc, (fun _ h => by cases h), trivial⟩
  | (d, b) :: r, ⟨h1, h2, h3⟩, h => by
    refine ⟨h1, fun x m => ?_, falls_snoc hc h3 fun x m => h x (List.mem_cons_of_mem _ m)⟩
    rcases List.mem_append.mp m with m | m
    · exact h2 x m
    · rw [List.mem_singleton] at m
      subst m
      exact h (d, b) (List.mem_cons_self ..)
structure DrawnG (great most : Int) (g : GC.Gs) : Prop where
  falls : GC.Falls g
  len : (g.length : Int) ≤ most
  cap : GC.cap g ≤ g.length * great
  gains : ∀ s ∈ g, -100 ≤ s.2 ∧ s.2 ≤ 7
theorem gains_ok {n : Nat} {great most : Int} {t : DS} (h1 : 0 < great) (h2 : great < 2 ^ 60) (h3 : 0 ≤ most) (h4 : most ≤ 10) (hc : t.c + 50 < 2 ^ 40) :
    ∃ g t', FF_q_gains [.hnd n, .int great, .int most] t = some (.ok (gD g) false, t') ∧ DrawnG great most g ∧ t'.c ≤ t.c + 30 := by
  have key : wF (FF_q_gains [.hnd n, .int great, .int most] t) fun o t' => ∃ g, o = .ok (gD g) false ∧ DrawnG great most g ∧ t'.c ≤ t.c + 30 := by
    have a0 := t.draw_in (m := 9) (by decide)
    have c0 : (t.step 9).c ≤ t.c + 1 := DS.step_c
    have a1 := (t.step 9).draw_in (m := most + 1) (by omega)
    have c1 : ((t.step 9).step (most + 1)).c ≤ (t.step 9).c + 1 := DS.step_c
    unfold FF_q_gains fb_q_gains
    simp only [fdA, List.map_cons, List.map_nil, List.length_cons, List.length_nil, List.cons_append, List.nil_append, List.replicate_succ, List.replicate_zero, Nat.zero_add, Nat.reduceAdd, Nat.reduceSub, Nat.sub_self, if_true, if_false, Bool.false_eq_true, Bool.not_true, Bool.not_false, reduceCtorEq, ite_true, ite_false, List.getElem?_cons_zero, List.getElem?_cons_succ, List.set_cons_zero, List.set_cons_succ, LEN, Nat.reduceLeDiff, Option.map_some, fvA, List.length_map, List.length_set, decide_true, decide_false, fhA, List.mem_cons, List.not_mem_nil, or_false, or_true, Nat.reduceEqDiff, Nat.succ_ne_self, fxA, fwA, fyA, and_true, true_and, imp_self, true_imp_iff, false_imp_iff, implies_true, next_eq (n := n) (t := t) (m := 9) (by decide) (by decide) (by omega), next_eq (n := n) (t := t.step 9) (m := most + 1) (by omega) (by omega) (by omega), v_rng1 (j := (t.step 9).draw (most + 1)) (small_of (by omega))]
    refine w_for (fun i s => ∃ g cur x, s.1 = [.v (.hnd n), .v (.int great), .v (.int most), .v (.int cur), .o (.lst (g.map stD)), x] ∧ g.length = i ∧ GC.Falls g ∧ (∀ x ∈ g, cur < x.2) ∧ cur ≤ 7 ∧ -1 - 3 * (i : Int) ≤ cur ∧ (∀ s ∈ g, -100 ≤ s.2 ∧ s.2 ≤ 7) ∧ GC.cap g ≤ g.length * great ∧ s.2.c ≤ t.c + 2 + 2 * i) ?_ ?_ ?_
    · exact ⟨[], _, _, rfl, rfl, trivial, (fun _ h => by cases h), by omega, by omega, (fun _ h => by cases h), by simp [GC.cap], by simp only; omega⟩
    · rintro i d ⟨τ, u⟩ hd ⟨g, cur, x, rfl, gl, gf, gc, cu, cl, gg, gcap, hu⟩
      have hi : i < (rngL 0 ((t.step 9).draw (most + 1))).length := (List.getElem?_eq_some_iff.mp hd).1
      rw [rngL_len] at hi
      simp only at hu ⊢
      have b0 := u.draw_in (m := great) h1
      have d0 : (u.step great).c ≤ u.c + 1 := DS.step_c
      have b1 := (u.step great).draw_in (m := 3) (by decide)
      have d1 : ((u.step great).step 3).c ≤ (u.step great).c + 1 := DS.step_c
      simp only [fdA, List.map_cons, List.map_nil, List.length_cons, List.length_nil, List.cons_append, List.nil_append, List.replicate_succ, List.replicate_zero, Nat.zero_add, Nat.reduceAdd, Nat.reduceSub, Nat.sub_self, if_true, if_false, Bool.false_eq_true, Bool.not_true, Bool.not_false, reduceCtorEq, ite_true, ite_false, List.getElem?_cons_zero, List.getElem?_cons_succ, List.set_cons_zero, List.set_cons_succ, LEN, Nat.reduceLeDiff, Option.map_some, fvA, List.length_map, List.length_set, decide_true, decide_false, fhA, List.mem_cons, List.not_mem_nil, or_false, or_true, Nat.reduceEqDiff, Nat.succ_ne_self, fxA, fwA, fyA, and_true, true_and, imp_self, true_imp_iff, false_imp_iff, implies_true, next_eq (n := n) (t := u) (m := great) h1 (by omega) (by omega), next_eq (n := n) (t := u.step great) (m := 3) (by decide) (by decide) (by omega), v_app (xs := g.map stD) (d := .tup [.int (1 + u.draw great), .int cur]) (by simp [LEN]; omega)]
      refine ⟨g ++ [(1 + u.draw great, cur)], _, _, by rw [List.map_append]; rfl, by simp [gl], falls_snoc (by omega) gf gc, ?_, by omega, by omega, ?_, ?_, by omega⟩
      · intro y m
        rcases List.mem_append.mp m with m | m
        · have := gc y m
          omega
        · rw [List.mem_singleton] at m
          subst m
          show cur - 1 - _ < cur
          omega
      · intro y m
        rcases List.mem_append.mp m with m | m
        · exact gg y m
        · rw [List.mem_singleton] at m
          subst m
          show -100 ≤ cur ∧ cur ≤ 7
          omega
      · rw [GC.cap_app, List.length_append, Int.natCast_add, Int.add_mul]
        simp only [GC.cap, List.length_cons, List.length_nil]
        omega
    · rintro ⟨τ, u⟩ ⟨g, cur, x, rfl, gl, gf, gc, cu, cl, gg, gcap, hu⟩
      rw [rngL_len] at gl hu
      simp only at hu ⊢
      simp only [fdA, List.map_cons, List.map_nil, List.length_cons, List.length_nil, List.cons_append, List.nil_append, List.replicate_succ, List.replicate_zero, Nat.zero_add, Nat.reduceAdd, Nat.reduceSub, Nat.sub_self, if_true, if_false, Bool.false_eq_true, Bool.not_true, Bool.not_false, reduceCtorEq, ite_true, ite_false, List.getElem?_cons_zero, List.getElem?_cons_succ, List.set_cons_zero, List.set_cons_succ, LEN, Nat.reduceLeDiff, Option.map_some, fvA, List.length_map, List.length_set, decide_true, decide_false, fhA, List.mem_cons, List.not_mem_nil, or_false, or_true, Nat.reduceEqDiff, Nat.succ_ne_self, fxA, fwA, fyA, and_true, true_and, imp_self, true_imp_iff, false_imp_iff, implies_true]
      exact ⟨g, rfl, ⟨gf, by omega, gcap, gg⟩, by omega⟩
  obtain ⟨o, t', e, g, rfl, h⟩ := key
  exact ⟨g, t', e, h⟩
theorem capacity_eq {g : GC.Gs} {t : DS} (h : g.length ≤ 100000) : FF_q_capacity [gD g] t = some (.ok (.int (GC.cap g)) false, t) := by
  refine w_eq ?_
  unfold FF_q_capacity fb_q_capacity gD
  simp only [fdA, List.map_cons, List.map_nil, List.length_cons, List.length_nil, List.cons_append, List.nil_append, List.replicate_succ, List.replicate_zero, Nat.zero_add, Nat.reduceAdd, Nat.reduceSub, Nat.sub_self, if_true, if_false, Bool.false_eq_true, Bool.not_true, Bool.not_false, reduceCtorEq, ite_true, ite_false, List.getElem?_cons_zero, List.getElem?_cons_succ, List.set_cons_zero, List.set_cons_succ, LEN, Nat.reduceLeDiff, Option.map_some, fvA, List.length_map, List.length_set, decide_true, decide_false, fhA, List.mem_cons, List.not_mem_nil, or_false, or_true, Nat.reduceEqDiff, Nat.succ_ne_self, fxA, fwA, fyA, and_true, true_and, imp_self, true_imp_iff, false_imp_iff, implies_true]
  refine ⟨by simpa using h, w_map g stD rfl (fun s => .int s.1) (fun s _ => ?_) ?_⟩
  · unfold stD
    simp only [fdA, List.map_cons, List.map_nil, List.length_cons, List.length_nil, List.cons_append, List.nil_append, List.replicate_succ, List.replicate_zero, Nat.zero_add, Nat.reduceAdd, Nat.reduceSub, Nat.sub_self, if_true, if_false, Bool.false_eq_true, Bool.not_true, Bool.not_false, reduceCtorEq, ite_true, ite_false, List.getElem?_cons_zero, List.getElem?_cons_succ, List.set_cons_zero, List.set_cons_succ, LEN, Nat.reduceLeDiff, Option.map_some, fvA, List.length_map, List.length_set, decide_true, decide_false, fhA, List.mem_cons, List.not_mem_nil, or_false, or_true, Nat.reduceEqDiff, Nat.succ_ne_self, fxA, fwA, fyA, and_true, true_and, imp_self, true_imp_iff, false_imp_iff, implies_true]
  · have e : ∀ g : GC.Gs, (g.map fun s => s.1).sum = GC.cap g := by
      intro g
      induction g with
      | nil => rfl
      | cons s r ih => obtain ⟨c, a⟩ := s; simp [GC.cap, ih]
    have e2 : g.map (fun s => D.int s.1) = (g.map fun s => s.1).map D.int := by simp
    rw [e2]
    simp only [fdA, List.map_cons, List.map_nil, List.length_cons, List.length_nil, List.cons_append, List.nil_append, List.replicate_succ, List.replicate_zero, Nat.zero_add, Nat.reduceAdd, Nat.reduceSub, Nat.sub_self, if_true, if_false, Bool.false_eq_true, Bool.not_true, Bool.not_false, reduceCtorEq, ite_true, ite_false, List.getElem?_cons_zero, List.getElem?_cons_succ, List.set_cons_zero, List.set_cons_succ, LEN, Nat.reduceLeDiff, Option.map_some, fvA, List.length_map, List.length_set, decide_true, decide_false, fhA, List.mem_cons, List.not_mem_nil, or_false, or_true, Nat.reduceEqDiff, Nat.succ_ne_self, fxA, fwA, fyA, and_true, true_and, imp_self, true_imp_iff, false_imp_iff, implies_true, e]
theorem v_max2 {a b : Int} : max2D [.int a, .int b] = some (.int (max a b), false) := by
  simp only [max2D]
  congr 3
  split <;> omega
theorem v_min2 {a b : Int} : min2D [.int a, .int b] = some (.int (min a b), false) := by
  simp only [min2D]
  congr 3
  split <;> omega
theorem limits_ok {n : Nat} {total most : Int} {t : DS} (h1 : 0 ≤ total) (h2 : 0 ≤ most) (hc : t.c + 50 < 2 ^ 40) :
    ∃ lo hi t', FF_q_limits [.hnd n, .int total, .int most] t = some (.ok (.tup [.int lo, .int hi]) false, t') ∧ 0 ≤ lo ∧ lo ≤ hi ∧ hi ≤ 1000000000000 ∧ t'.c ≤ t.c + 5 := by
  have key : wF (FF_q_limits [.hnd n, .int total, .int most] t) fun o t' => ∃ lo hi, o = .ok (.tup [.int lo, .int hi]) false ∧ 0 ≤ lo ∧ lo ≤ hi ∧ hi ≤ 1000000000000 ∧ t'.c ≤ t.c + 5 := by
    have a0 := t.draw_in (m := 6) (by decide)
    have c0 : (t.step 6).c ≤ t.c + 1 := DS.step_c
    have n0 := next_eq (n := n) (t := t) (m := 6) (by decide) (by decide) (by omega)
    obtain ⟨u, hu⟩ : ∃ u, u = t.step 6 := ⟨_, rfl⟩
    rw [← hu] at n0 c0
    unfold FF_q_limits fb_q_limits
    simp only [fdA, List.map_cons, List.map_nil, List.length_cons, List.length_nil, List.cons_append, List.nil_append, List.replicate_succ, List.replicate_zero, Nat.zero_add, Nat.reduceAdd, Nat.reduceSub, Nat.sub_self, if_true, if_false, Bool.false_eq_true, Bool.not_true, Bool.not_false, reduceCtorEq, ite_true, ite_false, List.getElem?_cons_zero, List.getElem?_cons_succ, List.set_cons_zero, List.set_cons_succ, LEN, Nat.reduceLeDiff, Option.map_some, fvA, List.length_map, List.length_set, decide_true, decide_false, fhA, List.mem_cons, List.not_mem_nil, or_false, or_true, Nat.reduceEqDiff, Nat.succ_ne_self, fxA, fwA, fyA, and_true, true_and, imp_self, true_imp_iff, false_imp_iff, implies_true, v_pow12, v_min2, v_max2, n0, decide_eq_true_eq, decide_eq_false_iff_not]
    refine ⟨fun z => ?_, fun z => ?_⟩
    · have a1 := u.draw_in (m := min most 1000000000000 + 1) (by omega)
      have c1 : (u.step (min most 1000000000000 + 1)).c ≤ u.c + 1 := DS.step_c
      have a2 := (u.step (min most 1000000000000 + 1)).draw_in (m := 4) (by decide)
      have c2 : ((u.step (min most 1000000000000 + 1)).step 4).c ≤ (u.step (min most 1000000000000 + 1)).c + 1 := DS.step_c
      simp only [fdA, List.map_cons, List.map_nil, List.length_cons, List.length_nil, List.cons_append, List.nil_append, List.replicate_succ, List.replicate_zero, Nat.zero_add, Nat.reduceAdd, Nat.reduceSub, Nat.sub_self, if_true, if_false, Bool.false_eq_true, Bool.not_true, Bool.not_false, reduceCtorEq, ite_true, ite_false, List.getElem?_cons_zero, List.getElem?_cons_succ, List.set_cons_zero, List.set_cons_succ, LEN, Nat.reduceLeDiff, Option.map_some, fvA, List.length_map, List.length_set, decide_true, decide_false, fhA, List.mem_cons, List.not_mem_nil, or_false, or_true, Nat.reduceEqDiff, Nat.succ_ne_self, fxA, fwA, fyA, and_true, true_and, imp_self, true_imp_iff, false_imp_iff, implies_true, v_min2, v_pow12, next_eq (n := n) (t := u) (m := min most 1000000000000 + 1) (by omega) (by omega) (by omega), next_eq (n := n) (t := u.step (min most 1000000000000 + 1)) (m := 4) (by decide) (by decide) (by omega)]
      exact ⟨_, _, rfl, by omega, by omega, by omega, by omega⟩
    · have a1 := u.draw_in (m := 3) (by decide)
      have c1 : (u.step 3).c ≤ u.c + 1 := DS.step_c
      have a2 := (u.step 3).draw_in (m := 3) (by decide)
      have c2 : ((u.step 3).step 3).c ≤ (u.step 3).c + 1 := DS.step_c
      obtain ⟨w, hw⟩ : ∃ w : Int, w = min total 1000000000000 := ⟨_, rfl⟩
      rw [← hw]
      obtain ⟨d, hd, e⟩ := atI_ex (ds := [.tup [.int 0, .int w], .tup [.int w, .int w], .tup [.int (max 0 (w - u.draw 3)), .int (min 1000000000000 (w + (u.step 3).draw 3))], .tup [.int 0, .int (min 1000000000000 (w + (u.step 3).draw 3))], .tup [.int (max 0 (w - u.draw 3)), .int 1000000000000]]) (i := t.draw 6 - 1) (by omega) (by simp; omega)
      simp only [fdA, List.map_cons, List.map_nil, List.length_cons, List.length_nil, List.cons_append, List.nil_append, List.replicate_succ, List.replicate_zero, Nat.zero_add, Nat.reduceAdd, Nat.reduceSub, Nat.sub_self, if_true, if_false, Bool.false_eq_true, Bool.not_true, Bool.not_false, reduceCtorEq, ite_true, ite_false, List.getElem?_cons_zero, List.getElem?_cons_succ, List.set_cons_zero, List.set_cons_succ, LEN, Nat.reduceLeDiff, Option.map_some, fvA, List.length_map, List.length_set, decide_true, decide_false, fhA, List.mem_cons, List.not_mem_nil, or_false, or_true, Nat.reduceEqDiff, Nat.succ_ne_self, fxA, fwA, fyA, and_true, true_and, imp_self, true_imp_iff, false_imp_iff, implies_true, v_min2, v_max2, v_pow12, next_eq (n := n) (t := u) (m := 3) (by decide) (by decide) (by omega), next_eq (n := n) (t := u.step 3) (m := 3) (by decide) (by decide) (by omega), v_ix_l e]
      simp only [List.mem_cons, List.not_mem_nil, or_false] at hd
      rcases hd with rfl | rfl | rfl | rfl | rfl <;> exact ⟨_, _, rfl, by omega, by omega, by omega, by omega⟩
  obtain ⟨o, t', e, lo, hi, rfl, h⟩ := key
  exact ⟨lo, hi, t', e, h⟩
def lenAt {T : Type} (i : Nat) (s : Sg T) : Nat := match s.1[i]? with
  | some (.o (.lst ds)) => ds.length
  | _ => 0
theorem eraseIdx_map {A B : Type} (f : A → B) : ∀ (l : List A) (k : Nat), (l.map f).eraseIdx k = (l.eraseIdx k).map f
  | [], _ => rfl
  | a :: r, 0 => rfl
  | a :: r, k + 1 => by simp only [List.map_cons, List.eraseIdx_cons_succ, eraseIdx_map f r k]
theorem v_popT {A : Type} (mk : A → D) {as : List A} {k : Nat} {i : Int} (e : i = (k : Int)) (h1 : k < as.length) (h2 : as.length ≤ 2 ^ 60) : popD (as.map mk) [.int i] = some ((as.eraseIdx k).map mk, mk as[k]) := by
  subst e
  have e := seqIndex_of (k := k) (n := as.length) (by omega) (by omega)
  have e2 : (as.map mk)[k]? = some (mk as[k]) := by simp [h1]
  have e3 : seqIndex? (k : Int) (as.map mk).length = some k := by rw [List.length_map]; exact e
  show (if small (k : Int) = true then _ else _) = _
  rw [if_pos (small_of (by omega)), e3]
  simp only [e2]
  rw [eraseIdx_map]
theorem sortUp_asc {l : List Int} (h : l.Nodup) : GC.Asc (sortUp l) ∧ (sortUp l).Perm l := by
  have p : (sortUp l).Perm l := List.mergeSort_perm _ _
  refine ⟨?_, p⟩
  have s : (sortUp l).Pairwise fun a b => decide (a ≤ b) = true := List.pairwise_mergeSort (fun a b c h1 h2 => by simp at *; omega) (fun a b => by simp; omega) l
  have nd : (sortUp l).Nodup := p.nodup_iff.mpr h
  refine (List.Pairwise.and s nd).imp fun {a b} h => ?_
  have h1 := of_decide_eq_true h.1
  have := h.2
  omega
theorem v_sortD_t {a : List Int} : sortD [tpI a] = some (.lst ((sortUp a).map D.int), true) := v_sort_t (b := false)
theorem cut_map {A B : Type} (f : A → B) (l : List A) (lo hi : Option Int) : cutL (l.map f) lo hi = (cutL l lo hi).map f := by
  unfold cutL
  rw [List.length_map, ← List.map_drop, ← List.map_take]
theorem cut_sub {A : Type} (l : List A) (lo hi : Option Int) : (cutL l lo hi).Sublist l := (List.take_sublist _ _).trans (List.drop_sublist _ _)
theorem cut_last {A : Type} (l : List A) (k : Nat) (hk : 0 < k) : (cutL l (some (-(k : Int))) none).length ≤ k := by
  unfold cutL sl0 sl1
  rw [HT.sIx_none]
  have e : HT.sIx l.length 0 (some (-(k : Int))) = (-(k : Int) + (l.length : Int)).toNat := by
    show (if -(k : Int) < 0 then _ else _) = _
    rw [if_pos (by omega)]
  rw [e]
  simp only [List.length_take, List.length_drop]
  omega
theorem family_ok {n m : Nat} {t : DS} (hm : m ≤ 100) (hc : t.c + 1000 < 2 ^ 40) :
    ∃ (fs : List (List Int)) (t' : DS), FF_q_family [.hnd n, .int (m : Int)] t = some (.ok (.lst (fs.map tpI)) true, t') ∧ (∀ f ∈ fs, GC.Asc f ∧ f ≠ [] ∧ (∀ x ∈ f, 0 ≤ x ∧ x < m) ∧ f.length ≤ m) ∧ fs.Pairwise GC.Compat ∧ fs.length ≤ 8 ∧ t'.c ≤ t.c + 900 := by
  have key : wF (FF_q_family [.hnd n, .int (m : Int)] t) fun o t' => ∃ fs : List (List Int), o = .ok (.lst (fs.map tpI)) true ∧ (∀ f ∈ fs, GC.Asc f ∧ f ≠ [] ∧ (∀ x ∈ f, 0 ≤ x ∧ x < m) ∧ f.length ≤ m) ∧ fs.Pairwise GC.Compat ∧ fs.length ≤ 8 ∧ t'.c ≤ t.c + 900 := by
    have er : rngL 0 (m : Int) = (GC.rangeI m).map D.int := by
      rw [rngL_nat]
      unfold GC.rangeI
      rw [List.map_map]
      rfl
    have lr := GC.rangeI_len m
    unfold FF_q_family fb_q_family
    simp only [fdA, List.map_cons, List.map_nil, List.length_cons, List.length_nil, List.cons_append, List.nil_append, List.replicate_succ, List.replicate_zero, Nat.zero_add, Nat.reduceAdd, Nat.reduceSub, Nat.sub_self, if_true, if_false, Bool.false_eq_true, Bool.not_true, Bool.not_false, reduceCtorEq, ite_true, ite_false, List.getElem?_cons_zero, List.getElem?_cons_succ, List.set_cons_zero, List.set_cons_succ, LEN, Nat.reduceLeDiff, Option.map_some, fvA, List.length_map, List.length_set, decide_true, decide_false, fhA, List.mem_cons, List.not_mem_nil, or_false, or_true, Nat.reduceEqDiff, Nat.succ_ne_self, fxA, fwA, fyA, and_true, true_and, imp_self, true_imp_iff, false_imp_iff, implies_true, v_rng1 (j := (m : Int)) (small_of (by omega))]
    refine ⟨by rw [rngL_len]; omega, w_map (GC.rangeI m) D.int er (fun k => tpI [k]) (fun k _ => ?_) ?_⟩
    · simp only [fdA, List.map_cons, List.map_nil, List.length_cons, List.length_nil, List.cons_append, List.nil_append, List.replicate_succ, List.replicate_zero, Nat.zero_add, Nat.reduceAdd, Nat.reduceSub, Nat.sub_self, if_true, if_false, Bool.false_eq_true, Bool.not_true, Bool.not_false, reduceCtorEq, ite_true, ite_false, List.getElem?_cons_zero, List.getElem?_cons_succ, List.set_cons_zero, List.set_cons_succ, LEN, Nat.reduceLeDiff, Option.map_some, fvA, List.length_map, List.length_set, decide_true, decide_false, fhA, List.mem_cons, List.not_mem_nil, or_false, or_true, Nat.reduceEqDiff, Nat.succ_ne_self, fxA, fwA, fyA, and_true, true_and, imp_self, true_imp_iff, false_imp_iff, implies_true]
      rfl
    have es : (GC.rangeI m).map (fun k => tpI [k]) = (GC.singles m).map tpI := by
      unfold GC.singles
      rw [List.map_map]
      rfl
    rw [es]
    have ls : (GC.singles m).length = m := by simp [GC.singles, lr]
    refine w_forA (GC.singles m) tpI rfl (fun l s => ∃ fs x, s.1 = [.v (.hnd n), .v (.int (m : Int)), .o (.lst ((GC.singles m).map tpI)), .o (.lst (fs.map tpI)), x, .no, .no, .no] ∧ fs.Sublist l ∧ s.2.c ≤ t.c + l.length) ⟨[], _, rfl, .slnil, by simp⟩ ?_ ?_
    · rintro l b r ⟨τ, u⟩ el ⟨fs, x, rfl, sl, hu⟩
      have ll : l.length < m := by
        have := congrArg List.length el
        simp [ls] at this
        omega
      have fl := sl.length_le
      simp only at hu
      have d0 : (u.step 5).c ≤ u.c + 1 := DS.step_c
      simp only [fdA, List.map_cons, List.map_nil, List.length_cons, List.length_nil, List.cons_append, List.nil_append, List.replicate_succ, List.replicate_zero, Nat.zero_add, Nat.reduceAdd, Nat.reduceSub, Nat.sub_self, if_true, if_false, Bool.false_eq_true, Bool.not_true, Bool.not_false, reduceCtorEq, ite_true, ite_false, List.getElem?_cons_zero, List.getElem?_cons_succ, List.set_cons_zero, List.set_cons_succ, LEN, Nat.reduceLeDiff, Option.map_some, fvA, List.length_map, List.length_set, decide_true, decide_false, fhA, List.mem_cons, List.not_mem_nil, or_false, or_true, Nat.reduceEqDiff, Nat.succ_ne_self, fxA, fwA, fyA, and_true, true_and, imp_self, true_imp_iff, false_imp_iff, implies_true, next_eq (n := n) (t := u) (m := 5) (by decide) (by decide) (by omega)]
      refine ⟨fun _ => ?_, fun _ => ?_⟩
      · simp only [fdA, List.map_cons, List.map_nil, List.length_cons, List.length_nil, List.cons_append, List.nil_append, List.replicate_succ, List.replicate_zero, Nat.zero_add, Nat.reduceAdd, Nat.reduceSub, Nat.sub_self, if_true, if_false, Bool.false_eq_true, Bool.not_true, Bool.not_false, reduceCtorEq, ite_true, ite_false, List.getElem?_cons_zero, List.getElem?_cons_succ, List.set_cons_zero, List.set_cons_succ, LEN, Nat.reduceLeDiff, Option.map_some, fvA, List.length_map, List.length_set, decide_true, decide_false, fhA, List.mem_cons, List.not_mem_nil, or_false, or_true, Nat.reduceEqDiff, Nat.succ_ne_self, fxA, fwA, fyA, and_true, true_and, imp_self, true_imp_iff, false_imp_iff, implies_true, v_app (xs := fs.map tpI) (d := tpI b) (by simp [LEN]; omega)]
        exact ⟨fs ++ [b], _, by rw [List.map_append]; rfl, sl.append (List.Sublist.refl _), by simp; omega⟩
      · exact ⟨fs, _, rfl, sl.trans (List.sublist_append_left _ _), by simp; omega⟩
    · rintro ⟨τ, u⟩ ⟨fs, x, rfl, sl, hu⟩
      have f0 := GC.singles_found sl
      have fl := sl.length_le
      dsimp only at hu
      rw [ls] at fl hu
      simp only [fdA, List.map_cons, List.map_nil, List.length_cons, List.length_nil, List.cons_append, List.nil_append, List.replicate_succ, List.replicate_zero, Nat.zero_add, Nat.reduceAdd, Nat.reduceSub, Nat.sub_self, if_true, if_false, Bool.false_eq_true, Bool.not_true, Bool.not_false, reduceCtorEq, ite_true, ite_false, List.getElem?_cons_zero, List.getElem?_cons_succ, List.set_cons_zero, List.set_cons_succ, LEN, Nat.reduceLeDiff, Option.map_some, fvA, List.length_map, List.length_set, decide_true, decide_false, fhA, List.mem_cons, List.not_mem_nil, or_false, or_true, Nat.reduceEqDiff, Nat.succ_ne_self, fxA, fwA, fyA, and_true, true_and, imp_self, true_imp_iff, false_imp_iff, implies_true]
      refine w_while (fun s => ∃ (bs fs : List (List Int)) (x4 x5 x6 : Sl), s.1 = [.v (.hnd n), .v (.int (m : Int)), .o (.lst (bs.map tpI)), .o (.lst (fs.map tpI)), x4, x5, x6, .no] ∧ GC.Blocks m bs ∧ GC.Found bs fs ∧ fs.length + bs.length ≤ 2 * m ∧ s.2.c + 4 * bs.length ≤ t.c + m + 4 * m + 4)
        (lenAt 2) ⟨GC.singles m, fs, _, _, _, rfl, GC.singles_blocks m, f0, by omega, by dsimp only; omega⟩ ?_
      rintro ⟨τ, u⟩ ⟨bs, fs, x4, x5, x6, rfl, hb, hf, hl, hu⟩
      dsimp only at hu
      have bl := hb.count
      have d0 : (u.step 6).c ≤ u.c + 1 := DS.step_c
      have a0 := u.draw_in (m := 6) (by decide)
      have n0 := next_eq (n := n) (t := u) (m := 6) (by decide) (by decide) (by omega)
      obtain ⟨u1, h1⟩ : ∃ u1, u1 = u.step 6 := ⟨_, rfl⟩
      rw [← h1] at n0 d0
      simp only [fdA, List.map_cons, List.map_nil, List.length_cons, List.length_nil, List.cons_append, List.nil_append, List.replicate_succ, List.replicate_zero, Nat.zero_add, Nat.reduceAdd, Nat.reduceSub, Nat.sub_self, if_true, if_false, Bool.false_eq_true, Bool.not_true, Bool.not_false, reduceCtorEq, ite_true, ite_false, List.getElem?_cons_zero, List.getElem?_cons_succ, List.set_cons_zero, List.set_cons_succ, LEN, Nat.reduceLeDiff, Option.map_some, fvA, List.length_map, List.length_set, decide_true, decide_false, fhA, List.mem_cons, List.not_mem_nil, or_false, or_true, Nat.reduceEqDiff, Nat.succ_ne_self, fxA, fwA, fyA, and_true, true_and, imp_self, true_imp_iff, false_imp_iff, implies_true, n0, decide_eq_true_eq, decide_eq_false_iff_not]
      have fin : (∀ f ∈ cutL fs (some (-8)) none, GC.Asc f ∧ f ≠ [] ∧ (∀ x ∈ f, 0 ≤ x ∧ x < m) ∧ f.length ≤ m) ∧ (cutL fs (some (-8)) none).Pairwise GC.Compat ∧ (cutL fs (some (-8)) none).length ≤ 8 :=
        ⟨fun f mf => by
          have mf := (cut_sub fs (some (-8)) none).subset mf
          obtain ⟨b, mb, s⟩ := hf.sub f mf
          exact ⟨(hf.asc f mf).1, (hf.asc f mf).2, fun x mx => hb.in_ mb (s x mx), Nat.le_trans (GC.nodup_len (hf.asc f mf).1.nodup s) (hb.len mb)⟩, hf.pw.sublist (cut_sub _ _ _), cut_last fs 8 (by decide)⟩
      refine ⟨fun h2 => ⟨fun _ => ?_, fun _ => ?_⟩, fun _ => ?_⟩
      · -- two blocks become one
        have a1 := u1.draw_in (m := (bs.length : Int)) (by omega)
        have d1 : (u1.step bs.length).c ≤ u1.c + 1 := DS.step_c
        have n1 := next_eq (n := n) (t := u1) (m := (bs.length : Int)) (by omega) (by omega) (by omega)
        obtain ⟨p, hp⟩ := Int.eq_ofNat_of_zero_le a1.1
        have hpl : p < bs.length := by omega
        have p1 := v_popT tpI (as := bs) (k := p) (i := u1.draw bs.length) hp hpl (by omega)
        have l1 : (bs.eraseIdx p).length = bs.length - 1 := List.length_eraseIdx_of_lt hpl
        obtain ⟨u2, h2'⟩ : ∃ u2, u2 = u1.step bs.length := ⟨_, rfl⟩
        rw [← h2'] at n1 d1
        have l1' : (((bs.eraseIdx p).length : Nat) : Int) = bs.length - 1 := by omega
        have a2 := u2.draw_in (m := (((bs.eraseIdx p).length : Nat) : Int)) (by omega)
        have d2 : (u2.step ((bs.eraseIdx p).length : Nat)).c ≤ u2.c + 1 := DS.step_c
        have n2 := next_eq (n := n) (t := u2) (m := (((bs.eraseIdx p).length : Nat) : Int)) (by omega) (by omega) (by omega)
        obtain ⟨q, hq⟩ := Int.eq_ofNat_of_zero_le a2.1
        have hql : q < (bs.eraseIdx p).length := by omega
        have p2 := v_popT tpI (as := bs.eraseIdx p) (k := q) (i := u2.draw ((bs.eraseIdx p).length : Nat)) hq hql (by omega)
        have l2 : ((bs.eraseIdx p).eraseIdx q).length = bs.length - 2 := by rw [List.length_eraseIdx_of_lt hql]; omega
        obtain ⟨u3, h3'⟩ : ∃ u3, u3 = u2.step ((bs.eraseIdx p).length : Nat) := ⟨_, rfl⟩
        rw [← h3'] at n2 d2
        have d3 : (u3.step 4).c ≤ u3.c + 1 := DS.step_c
        have n3 := next_eq (n := n) (t := u3) (m := 4) (by decide) (by decide) (by omega)
        have pm : (bs[p] :: (bs.eraseIdx p)[q] :: (bs.eraseIdx p).eraseIdx q).Perm bs := ((GC.erase_perm hql).cons _).trans (GC.erase_perm hpl)
        have hb' := hb.perm pm
        have hf' := hf.perm pm
        have la := hb'.len (b := bs[p]) (by simp)
        have lb := hb'.len (b := (bs.eraseIdx p)[q]) (by simp)
        have nd : (bs[p] ++ (bs.eraseIdx p)[q]).Nodup := by
          have := hb'.nodup
          simp only [List.flatten_cons] at this
          rw [← List.append_assoc] at this
          exact (List.nodup_append.mp this).1
        obtain ⟨as, ps⟩ := sortUp_asc nd
        have ad := v_add_tpI (a := bs[p]) (b := (bs.eraseIdx p)[q]) (by simp only [LEN]; omega)
        obtain ⟨mm, hmm⟩ : ∃ mm, mm = sortUp (bs[p] ++ (bs.eraseIdx p)[q]) := ⟨_, rfl⟩
        have so := v_sortD_t (a := bs[p] ++ (bs.eraseIdx p)[q])
        rw [← hmm] at as ps so
        have ap := v_app (xs := ((bs.eraseIdx p).eraseIdx q).map tpI) (d := tpI mm) (by simp [LEN]; omega)
        have ap2 := v_app (xs := fs.map tpI) (d := tpI mm) (by simp [LEN]; omega)
        have lst := v_ix_l (atI_last (((bs.eraseIdx p).eraseIdx q).map tpI) (tpI mm))
        have bm := hb'.merge ps as
        simp only [tpI] at p1 p2 ad so ap ap2 lst ⊢
        simp only [fdA, List.map_cons, List.map_nil, List.length_cons, List.length_nil, List.cons_append, List.nil_append, List.replicate_succ, List.replicate_zero, Nat.zero_add, Nat.reduceAdd, Nat.reduceSub, Nat.sub_self, if_true, if_false, Bool.false_eq_true, Bool.not_true, Bool.not_false, reduceCtorEq, ite_true, ite_false, List.getElem?_cons_zero, List.getElem?_cons_succ, List.set_cons_zero, List.set_cons_succ, LEN, Nat.reduceLeDiff, Option.map_some, fvA, List.length_map, List.length_set, decide_true, decide_false, fhA, List.mem_cons, List.not_mem_nil, or_false, or_true, Nat.reduceEqDiff, Nat.succ_ne_self, fxA, fwA, fyA, and_true, true_and, imp_self, true_imp_iff, false_imp_iff, implies_true, n1, p1, n2, p2, ad, so, ap, n3]
        simp only [tpI] at *
        simp only [fdA, List.map_cons, List.map_nil, List.length_cons, List.length_nil, List.cons_append, List.nil_append, List.replicate_succ, List.replicate_zero, Nat.zero_add, Nat.reduceAdd, Nat.reduceSub, Nat.sub_self, if_true, if_false, Bool.false_eq_true, Bool.not_true, Bool.not_false, reduceCtorEq, ite_true, ite_false, List.getElem?_cons_zero, List.getElem?_cons_succ, List.set_cons_zero, List.set_cons_succ, LEN, Nat.reduceLeDiff, Option.map_some, fvA, List.length_map, List.length_set, decide_true, decide_false, fhA, List.mem_cons, List.not_mem_nil, or_false, or_true, Nat.reduceEqDiff, Nat.succ_ne_self, fxA, fwA, fyA, and_true, true_and, imp_self, true_imp_iff, false_imp_iff, implies_true, n1, p1, n2, p2, ad, so, ap, n3, decide_eq_true_eq, decide_eq_false_iff_not, v_neg, lst, ap2]
        have hm1 := GC.Found.merge hb' hf' ps
        have hm2 := GC.Found.more hb' hf' ps as
        refine ⟨fun _ => ⟨⟨(bs.eraseIdx p).eraseIdx q ++ [mm], fs ++ [mm], _, _, _, by rw [List.map_append, List.map_append]; rfl, bm, hm2, ?_, ?_⟩, ?_⟩, fun _ => ⟨⟨(bs.eraseIdx p).eraseIdx q ++ [mm], fs, _, _, _, by rw [List.map_append]; rfl, bm, hm1, ?_, ?_⟩, ?_⟩⟩
        all_goals simp only [lenAt, List.length_append, List.length_cons, List.length_nil, List.length_map, List.getElem?_cons_succ, List.getElem?_cons_zero]
        all_goals omega
      · simp only [fdA, List.map_cons, List.map_nil, List.length_cons, List.length_nil, List.cons_append, List.nil_append, List.replicate_succ, List.replicate_zero, Nat.zero_add, Nat.reduceAdd, Nat.reduceSub, Nat.sub_self, if_true, if_false, Bool.false_eq_true, Bool.not_true, Bool.not_false, reduceCtorEq, ite_true, ite_false, List.getElem?_cons_zero, List.getElem?_cons_succ, List.set_cons_zero, List.set_cons_succ, LEN, Nat.reduceLeDiff, Option.map_some, fvA, List.length_map, List.length_set, decide_true, decide_false, fhA, List.mem_cons, List.not_mem_nil, or_false, or_true, Nat.reduceEqDiff, Nat.succ_ne_self, fxA, fwA, fyA, and_true, true_and, imp_self, true_imp_iff, false_imp_iff, implies_true, v_neg, cut_map]
        exact ⟨_, rfl, fin.1, fin.2.1, fin.2.2, by omega⟩
      · simp only [fdA, List.map_cons, List.map_nil, List.length_cons, List.length_nil, List.cons_append, List.nil_append, List.replicate_succ, List.replicate_zero, Nat.zero_add, Nat.reduceAdd, Nat.reduceSub, Nat.sub_self, if_true, if_false, Bool.false_eq_true, Bool.not_true, Bool.not_false, reduceCtorEq, ite_true, ite_false, List.getElem?_cons_zero, List.getElem?_cons_succ, List.set_cons_zero, List.set_cons_succ, LEN, Nat.reduceLeDiff, Option.map_some, fvA, List.length_map, List.length_set, decide_true, decide_false, fhA, List.mem_cons, List.not_mem_nil, or_false, or_true, Nat.reduceEqDiff, Nat.succ_ne_self, fxA, fwA, fyA, and_true, true_and, imp_self, true_imp_iff, false_imp_iff, implies_true, v_neg, cut_map]
        exact ⟨_, rfl, fin.1, fin.2.1, fin.2.2, by omega⟩
  obtain ⟨o, t', e, fs, rfl, h⟩ := key
  exact ⟨fs, t', e, h⟩
structure Valid (s : Sys) : Prop where
  n1 : 0 < s.items.length
  n2 : s.items.length ≤ 6
  gains : ∀ g ∈ s.items, GC.Falls g ∧ g.length ≤ 5 ∧ GC.cap g ≤ 1000000000000 ∧ ∀ x ∈ g, -1000000 ≤ x.2 ∧ x.2 ≤ 1000000
  many : s.groups.length ≤ 8
  grp : ∀ g ∈ s.groups, GC.Asc g.ms ∧ g.ms ≠ [] ∧ (∀ x ∈ g.ms, 0 ≤ x ∧ x < s.items.length) ∧ 0 ≤ g.lo ∧ g.lo ≤ g.hi ∧ g.hi ≤ 1000000000000
  pw : s.groups.Pairwise fun a b => GC.Compat a.ms b.ms
theorem list_of {A : Type} (mk : A → D) {P : A → Prop} : ∀ {out : List D}, (∀ (i : Nat) v, out[i]? = some v → ∃ a, v = mk a ∧ P a) → ∃ as : List A, out = as.map mk ∧ ∀ a ∈ as, P a
  | [], _ => ⟨[], rfl, (fun _ h => by cases h)⟩
  | v :: r, h => by
    obtain ⟨a, rfl, p⟩ := h 0 v rfl
    obtain ⟨as, rfl, ps⟩ := list_of (mk := mk) (P := P) (out := r) fun i w e => h (i + 1) w e
    exact ⟨a :: as, rfl, fun x m => by rcases List.mem_cons.mp m with rfl | m; exact p; exact ps x m⟩
theorem cap_le {g : GC.Gs} {great most : Int} (h : DrawnG great most g) (h1 : most ≤ 5) (h2 : great ≤ 100000000000) (h0 : 0 ≤ great) : GC.cap g ≤ 500000000000 := by
  have a := h.cap
  have b := h.len
  have c := Int.mul_le_mul (a := g.length) (b := great) (c := 5) (d := 100000000000) (by omega) h2 h0 (by omega)
  omega
theorem cap_pos {g : GC.Gs} (h : GC.Falls g) : 0 ≤ GC.cap g := GC.cap_nonneg h
theorem sum_pos : ∀ {l : List Int}, (∀ x ∈ l, 0 ≤ x) → 0 ≤ l.sum
  | [], _ => by simp
  | a :: r, h => by
    have := sum_pos (l := r) fun x m => h x (List.mem_cons_of_mem _ m)
    have := h a (List.mem_cons_self ..)
    simp
    omega
theorem v_sumM {A : Type} {as : List A} {h : A → Int} : sumD [.lst (as.map fun a => .int (h a))] = some (.int (as.map h).sum, false) := by
  have e : as.map (fun a => D.int (h a)) = (as.map h).map D.int := by rw [List.map_map]; rfl
  rw [e]
  exact v_sum_l
theorem v_ixM {A : Type} (mk : A → D) {as : List A} {i : Int} (z : A) (h0 : 0 ≤ i) (h1 : i < as.length) : ixD (.tup (as.map mk)) (.int i) = some (mk (as[i.toNat]?.getD z), false) := by
  refine v_ix_t ?_
  obtain ⟨k, rfl⟩ := Int.eq_ofNat_of_zero_le h0
  have hk : k < as.length := by omega
  rw [atI_nat (xs := as.map mk) (j := k) (v := mk as[k]) (by simp [hk])]
  simp [hk]
theorem v_ixML {A : Type} (mk : A → D) {as : List A} {i : Int} (z : A) (h0 : 0 ≤ i) (h1 : i < as.length) : ixD (.lst (as.map mk)) (.int i) = some (mk (as[i.toNat]?.getD z), false) := by
  refine v_ix_l ?_
  obtain ⟨k, rfl⟩ := Int.eq_ofNat_of_zero_le h0
  have hk : k < as.length := by omega
  rw [atI_nat (xs := as.map mk) (j := k) (v := mk as[k]) (by simp [hk])]
  simp [hk]
theorem getD_mem {A : Type} {as : List A} {i : Int} {z : A} (h0 : 0 ≤ i) (h1 : i < as.length) : as[i.toNat]?.getD z ∈ as := by
  obtain ⟨k, rfl⟩ := Int.eq_ofNat_of_zero_le h0
  have hk : k < as.length := by omega
  simp [hk]
theorem system_ok {n : Nat} {great items steps : Int} {t : DS} (h1 : 0 < great) (h2 : great ≤ 100000000000) (h3 : 1 ≤ items) (h4 : items ≤ 6) (h5 : 0 ≤ steps) (h6 : steps ≤ 5) (hc : t.c + 5000 < 2 ^ 40) :
    ∃ (s : Sys) (t' : DS), FF_q_system [.hnd n, .int great, .int items, .int steps] t = some (.ok (syD s) false, t') ∧ Valid s ∧ (s.items.length : Int) ≤ items ∧ (∀ g ∈ s.items, DrawnG great steps g) ∧ t'.c ≤ t.c + 2000 := by
  have key : wF (FF_q_system [.hnd n, .int great, .int items, .int steps] t) fun o t' => ∃ s : Sys, o = .ok (syD s) false ∧ Valid s ∧ (s.items.length : Int) ≤ items ∧ (∀ g ∈ s.items, DrawnG great steps g) ∧ t'.c ≤ t.c + 2000 := by
    have a0 := t.draw_in (m := items) (by omega)
    have c0 : (t.step items).c ≤ t.c + 1 := DS.step_c
    have n0 := next_eq (n := n) (t := t) (m := items) (by omega) (by omega) (by omega)
    obtain ⟨u, hu⟩ : ∃ u, u = t.step items := ⟨_, rfl⟩
    rw [← hu] at n0 c0
    obtain ⟨many, hm⟩ : ∃ m : Nat, 1 + t.draw items = (m : Int) := ⟨(1 + t.draw items).toNat, by omega⟩
    unfold FF_q_system fb_q_system
    simp only [fdA, List.map_cons, List.map_nil, List.length_cons, List.length_nil, List.cons_append, List.nil_append, List.replicate_succ, List.replicate_zero, Nat.zero_add, Nat.reduceAdd, Nat.reduceSub, Nat.sub_self, if_true, if_false, Bool.false_eq_true, Bool.not_true, Bool.not_false, reduceCtorEq, ite_true, ite_false, List.getElem?_cons_zero, List.getElem?_cons_succ, List.set_cons_zero, List.set_cons_succ, LEN, Nat.reduceLeDiff, Option.map_some, fvA, List.length_map, List.length_set, decide_true, decide_false, fhA, List.mem_cons, List.not_mem_nil, or_false, or_true, Nat.reduceEqDiff, Nat.succ_ne_self, fxA, fwA, fyA, and_true, true_and, imp_self, true_imp_iff, false_imp_iff, implies_true, n0, hm, v_rng1 (j := (many : Int)) (small_of (by omega))]
    refine ⟨by rw [rngL_len]; omega, w_lcI (fun i w => w.c ≤ u.c + 30 * i) (fun _ v => ∃ g, v = gD g ∧ DrawnG great steps g) (by simp) (fun i d w hd hw => ?_) (fun out w hl hp hw => ?_)⟩
    · have hi : i < (rngL 0 (many : Int)).length := (List.getElem?_eq_some_iff.mp hd).1
      rw [rngL_len] at hi
      obtain ⟨g, w', e, hg, hw'⟩ := gains_ok (n := n) (great := great) (most := steps) (t := w) h1 (by omega) h5 (by omega) (by omega)
      simp only [fdA, List.map_cons, List.map_nil, List.length_cons, List.length_nil, List.cons_append, List.nil_append, List.replicate_succ, List.replicate_zero, Nat.zero_add, Nat.reduceAdd, Nat.reduceSub, Nat.sub_self, if_true, if_false, Bool.false_eq_true, Bool.not_true, Bool.not_false, reduceCtorEq, ite_true, ite_false, List.getElem?_cons_zero, List.getElem?_cons_succ, List.set_cons_zero, List.set_cons_succ, LEN, Nat.reduceLeDiff, Option.map_some, fvA, List.length_map, List.length_set, decide_true, decide_false, fhA, List.mem_cons, List.not_mem_nil, or_false, or_true, Nat.reduceEqDiff, Nat.succ_ne_self, fxA, fwA, fyA, and_true, true_and, imp_self, true_imp_iff, false_imp_iff, implies_true, e]
      exact ⟨⟨g, rfl, hg⟩, by omega⟩
    · rw [rngL_len] at hl hw
      obtain ⟨gs, rfl, hg⟩ := list_of gD hp
      simp only [List.length_map] at hl ⊢
      have hlen : gs.length = many := by omega
      refine ⟨by omega, w_lcI (fun i w' => w'.c ≤ w.c + i) (fun _ v => ∃ x : Int, v = .int x ∧ 0 ≤ x) (by simp) (fun i d w' hd hw' => ?_) (fun out w' hl2 hp2 hw' => ?_)⟩
      · rw [List.getElem?_map] at hd
        obtain ⟨g, hgi, rfl⟩ := Option.map_eq_some_iff.mp hd
        have gm := hg g (List.mem_of_getElem? hgi)
        have hi : i < gs.length := (List.getElem?_eq_some_iff.mp hgi).1
        have c1 := cap_le gm h6 h2 (by omega)
        have c2 := cap_pos gm.falls
        have a1 := w'.draw_in (m := GC.cap g + 1) (by omega)
        have d1 : (w'.step (GC.cap g + 1)).c ≤ w'.c + 1 := DS.step_c
        simp only [fdA, List.map_cons, List.map_nil, List.length_cons, List.length_nil, List.cons_append, List.nil_append, List.replicate_succ, List.replicate_zero, Nat.zero_add, Nat.reduceAdd, Nat.reduceSub, Nat.sub_self, if_true, if_false, Bool.false_eq_true, Bool.not_true, Bool.not_false, reduceCtorEq, ite_true, ite_false, List.getElem?_cons_zero, List.getElem?_cons_succ, List.set_cons_zero, List.set_cons_succ, LEN, Nat.reduceLeDiff, Option.map_some, fvA, List.length_map, List.length_set, decide_true, decide_false, fhA, List.mem_cons, List.not_mem_nil, or_false, or_true, Nat.reduceEqDiff, Nat.succ_ne_self, fxA, fwA, fyA, and_true, true_and, imp_self, true_imp_iff, false_imp_iff, implies_true, capacity_eq (g := g) (t := w') (by have := gm.len; omega), next_eq (n := n) (t := w') (m := GC.cap g + 1) (by omega) (by omega) (by omega)]
        exact ⟨⟨_, rfl, a1.1⟩, by omega⟩
      · simp only [List.length_map] at hl2 hw'
        obtain ⟨plan, rfl, hpl⟩ := list_of D.int hp2
        simp only [List.length_map] at hl2
        obtain ⟨fs, w2, e, hf, hpw, hf8, hw2⟩ := family_ok (n := n) (m := gs.length) (t := w') (by omega) (by omega)
        simp only [fdA, List.map_cons, List.map_nil, List.length_cons, List.length_nil, List.cons_append, List.nil_append, List.replicate_succ, List.replicate_zero, Nat.zero_add, Nat.reduceAdd, Nat.reduceSub, Nat.sub_self, if_true, if_false, Bool.false_eq_true, Bool.not_true, Bool.not_false, reduceCtorEq, ite_true, ite_false, List.getElem?_cons_zero, List.getElem?_cons_succ, List.set_cons_zero, List.set_cons_succ, LEN, Nat.reduceLeDiff, Option.map_some, fvA, List.length_map, List.length_set, decide_true, decide_false, fhA, List.mem_cons, List.not_mem_nil, or_false, or_true, Nat.reduceEqDiff, Nat.succ_ne_self, fxA, fwA, fyA, and_true, true_and, imp_self, true_imp_iff, false_imp_iff, implies_true, e]
        refine w_forA fs tpI rfl (fun l s => ∃ (grps : List Grp) (x5 x7 x8 x9 x10 : Sl), s.1 = [.v (.hnd n), .v (.int great), .v (.int items), .v (.int steps), .v (.tup (gs.map gD)), x5, .o (.lst (grps.map grD)), x7, x8, x9, x10, .no, .no] ∧ (x5 = .v (.lst (plan.map D.int)) ∨ x5 = .o (.lst (plan.map D.int))) ∧
          grps.map Grp.ms = l ∧ (∀ g ∈ grps, 0 ≤ g.lo ∧ g.lo ≤ g.hi ∧ g.hi ≤ 1000000000000) ∧ s.2.c ≤ w2.c + 5 * l.length) ⟨[], _, _, _, _, _, rfl, .inr rfl, rfl, (fun _ h => by cases h), by simp⟩ ?_ ?_
        · rintro l ms r ⟨τ, y⟩ el ⟨grps, x5, x7, x8, x9, x10, rfl, hx5, hgm, hgb, hy⟩
          have hfm := hf ms (by rw [el]; simp)
          have hll : l.length < 8 := by
            have := congrArg List.length el
            simp at this
            omega
          have hgl : grps.length = l.length := by rw [← hgm, List.length_map]
          dsimp only at hy
          have caps : ∀ i ∈ ms, FF_q_capacity [gD (gs[i.toNat]?.getD [])] y = some (.ok (.int (GC.cap (gs[i.toNat]?.getD []))) false, y) := fun i hi => by
            have := hfm.2.2.1 i hi
            have gm := hg _ (getD_mem (z := []) this.1 this.2)
            exact capacity_eq (by have := gm.len; omega)
          have pos1 : 0 ≤ (ms.map fun i => GC.cap (gs[i.toNat]?.getD [])).sum := sum_pos fun x hx => by
            obtain ⟨i, hi, rfl⟩ := List.mem_map.mp hx
            have := hfm.2.2.1 i hi
            exact cap_pos (hg _ (getD_mem (z := []) this.1 this.2)).falls
          have pos2 : 0 ≤ (ms.map fun i => plan[i.toNat]?.getD 0).sum := sum_pos fun x hx => by
            obtain ⟨i, hi, rfl⟩ := List.mem_map.mp hx
            have := hfm.2.2.1 i hi
            exact hpl _ (getD_mem (z := 0) this.1 (by omega))
          obtain ⟨lo, hi, y', el2, b1, b2, b3, b4⟩ := limits_ok (n := n) (t := y) pos2 pos1 (by omega)
          simp only [fdA, List.map_cons, List.map_nil, List.length_cons, List.length_nil, List.cons_append, List.nil_append, List.replicate_succ, List.replicate_zero, Nat.zero_add, Nat.reduceAdd, Nat.reduceSub, Nat.sub_self, if_true, if_false, Bool.false_eq_true, Bool.not_true, Bool.not_false, reduceCtorEq, ite_true, ite_false, List.getElem?_cons_zero, List.getElem?_cons_succ, List.set_cons_zero, List.set_cons_succ, LEN, Nat.reduceLeDiff, Option.map_some, fvA, List.length_map, List.length_set, decide_true, decide_false, fhA, List.mem_cons, List.not_mem_nil, or_false, or_true, Nat.reduceEqDiff, Nat.succ_ne_self, fxA, fwA, fyA, and_true, true_and, imp_self, true_imp_iff, false_imp_iff, implies_true]
          refine ⟨by omega, w_map ms D.int rfl (fun i => .int (GC.cap (gs[i.toNat]?.getD []))) (fun i hi => ?_) ?_⟩
          · have := hfm.2.2.1 i hi
            simp only [fdA, List.map_cons, List.map_nil, List.length_cons, List.length_nil, List.cons_append, List.nil_append, List.replicate_succ, List.replicate_zero, Nat.zero_add, Nat.reduceAdd, Nat.reduceSub, Nat.sub_self, if_true, if_false, Bool.false_eq_true, Bool.not_true, Bool.not_false, reduceCtorEq, ite_true, ite_false, List.getElem?_cons_zero, List.getElem?_cons_succ, List.set_cons_zero, List.set_cons_succ, LEN, Nat.reduceLeDiff, Option.map_some, fvA, List.length_map, List.length_set, decide_true, decide_false, fhA, List.mem_cons, List.not_mem_nil, or_false, or_true, Nat.reduceEqDiff, Nat.succ_ne_self, fxA, fwA, fyA, and_true, true_and, imp_self, true_imp_iff, false_imp_iff, implies_true, v_ixM gD [] this.1 this.2, caps i hi]
          · rcases hx5 with rfl | rfl
            · simp only [fdA, List.map_cons, List.map_nil, List.length_cons, List.length_nil, List.cons_append, List.nil_append, List.replicate_succ, List.replicate_zero, Nat.zero_add, Nat.reduceAdd, Nat.reduceSub, Nat.sub_self, if_true, if_false, Bool.false_eq_true, Bool.not_true, Bool.not_false, reduceCtorEq, ite_true, ite_false, List.getElem?_cons_zero, List.getElem?_cons_succ, List.set_cons_zero, List.set_cons_succ, LEN, Nat.reduceLeDiff, Option.map_some, fvA, List.length_map, List.length_set, decide_true, decide_false, fhA, List.mem_cons, List.not_mem_nil, or_false, or_true, Nat.reduceEqDiff, Nat.succ_ne_self, fxA, fwA, fyA, and_true, true_and, imp_self, true_imp_iff, false_imp_iff, implies_true, v_sumM]
              refine ⟨by omega, w_map ms D.int rfl (fun i => .int (plan[i.toNat]?.getD 0)) (fun i hi => ?_) ?_⟩
              · have := hfm.2.2.1 i hi
                simp only [fdA, List.map_cons, List.map_nil, List.length_cons, List.length_nil, List.cons_append, List.nil_append, List.replicate_succ, List.replicate_zero, Nat.zero_add, Nat.reduceAdd, Nat.reduceSub, Nat.sub_self, if_true, if_false, Bool.false_eq_true, Bool.not_true, Bool.not_false, reduceCtorEq, ite_true, ite_false, List.getElem?_cons_zero, List.getElem?_cons_succ, List.set_cons_zero, List.set_cons_succ, LEN, Nat.reduceLeDiff, Option.map_some, fvA, List.length_map, List.length_set, decide_true, decide_false, fhA, List.mem_cons, List.not_mem_nil, or_false, or_true, Nat.reduceEqDiff, Nat.succ_ne_self, fxA, fwA, fyA, and_true, true_and, imp_self, true_imp_iff, false_imp_iff, implies_true, v_ixML (as := plan) D.int 0 this.1 (by omega)]
              · simp only [fdA, List.map_cons, List.map_nil, List.length_cons, List.length_nil, List.cons_append, List.nil_append, List.replicate_succ, List.replicate_zero, Nat.zero_add, Nat.reduceAdd, Nat.reduceSub, Nat.sub_self, if_true, if_false, Bool.false_eq_true, Bool.not_true, Bool.not_false, reduceCtorEq, ite_true, ite_false, List.getElem?_cons_zero, List.getElem?_cons_succ, List.set_cons_zero, List.set_cons_succ, LEN, Nat.reduceLeDiff, Option.map_some, fvA, List.length_map, List.length_set, decide_true, decide_false, fhA, List.mem_cons, List.not_mem_nil, or_false, or_true, Nat.reduceEqDiff, Nat.succ_ne_self, fxA, fwA, fyA, and_true, true_and, imp_self, true_imp_iff, false_imp_iff, implies_true, v_sumM, el2, v_app (xs := grps.map grD) (d := .tup [tpI ms, .int lo, .int hi]) (by simp [LEN]; omega)]
                refine ⟨grps ++ [⟨ms, lo, hi⟩], _, _, _, _, _, by rw [List.map_append]; rfl, .inl rfl, by simp [hgm], fun g mg => ?_, by simp; omega⟩
                rcases List.mem_append.mp mg with mg | mg
                · exact hgb g mg
                · rw [List.mem_singleton] at mg
                  subst mg
                  exact ⟨b1, b2, b3⟩
            · simp only [fdA, List.map_cons, List.map_nil, List.length_cons, List.length_nil, List.cons_append, List.nil_append, List.replicate_succ, List.replicate_zero, Nat.zero_add, Nat.reduceAdd, Nat.reduceSub, Nat.sub_self, if_true, if_false, Bool.false_eq_true, Bool.not_true, Bool.not_false, reduceCtorEq, ite_true, ite_false, List.getElem?_cons_zero, List.getElem?_cons_succ, List.set_cons_zero, List.set_cons_succ, LEN, Nat.reduceLeDiff, Option.map_some, fvA, List.length_map, List.length_set, decide_true, decide_false, fhA, List.mem_cons, List.not_mem_nil, or_false, or_true, Nat.reduceEqDiff, Nat.succ_ne_self, fxA, fwA, fyA, and_true, true_and, imp_self, true_imp_iff, false_imp_iff, implies_true, v_sumM]
              refine ⟨by omega, w_map ms D.int rfl (fun i => .int (plan[i.toNat]?.getD 0)) (fun i hi => ?_) ?_⟩
              · have := hfm.2.2.1 i hi
                simp only [fdA, List.map_cons, List.map_nil, List.length_cons, List.length_nil, List.cons_append, List.nil_append, List.replicate_succ, List.replicate_zero, Nat.zero_add, Nat.reduceAdd, Nat.reduceSub, Nat.sub_self, if_true, if_false, Bool.false_eq_true, Bool.not_true, Bool.not_false, reduceCtorEq, ite_true, ite_false, List.getElem?_cons_zero, List.getElem?_cons_succ, List.set_cons_zero, List.set_cons_succ, LEN, Nat.reduceLeDiff, Option.map_some, fvA, List.length_map, List.length_set, decide_true, decide_false, fhA, List.mem_cons, List.not_mem_nil, or_false, or_true, Nat.reduceEqDiff, Nat.succ_ne_self, fxA, fwA, fyA, and_true, true_and, imp_self, true_imp_iff, false_imp_iff, implies_true, v_ixML (as := plan) D.int 0 this.1 (by omega)]
              · simp only [fdA, List.map_cons, List.map_nil, List.length_cons, List.length_nil, List.cons_append, List.nil_append, List.replicate_succ, List.replicate_zero, Nat.zero_add, Nat.reduceAdd, Nat.reduceSub, Nat.sub_self, if_true, if_false, Bool.false_eq_true, Bool.not_true, Bool.not_false, reduceCtorEq, ite_true, ite_false, List.getElem?_cons_zero, List.getElem?_cons_succ, List.set_cons_zero, List.set_cons_succ, LEN, Nat.reduceLeDiff, Option.map_some, fvA, List.length_map, List.length_set, decide_true, decide_false, fhA, List.mem_cons, List.not_mem_nil, or_false, or_true, Nat.reduceEqDiff, Nat.succ_ne_self, fxA, fwA, fyA, and_true, true_and, imp_self, true_imp_iff, false_imp_iff, implies_true, v_sumM, el2, v_app (xs := grps.map grD) (d := .tup [tpI ms, .int lo, .int hi]) (by simp [LEN]; omega)]
                refine ⟨grps ++ [⟨ms, lo, hi⟩], _, _, _, _, _, by rw [List.map_append]; rfl, .inl rfl, by simp [hgm], fun g mg => ?_, by simp; omega⟩
                rcases List.mem_append.mp mg with mg | mg
                · exact hgb g mg
                · rw [List.mem_singleton] at mg
                  subst mg
                  exact ⟨b1, b2, b3⟩
        · rintro ⟨τ, y⟩ ⟨grps, x5, x7, x8, x9, x10, rfl, hx5, hgm, hgb, hy⟩
          dsimp only at hy
          simp only [fdA, List.map_cons, List.map_nil, List.length_cons, List.length_nil, List.cons_append, List.nil_append, List.replicate_succ, List.replicate_zero, Nat.zero_add, Nat.reduceAdd, Nat.reduceSub, Nat.sub_self, if_true, if_false, Bool.false_eq_true, Bool.not_true, Bool.not_false, reduceCtorEq, ite_true, ite_false, List.getElem?_cons_zero, List.getElem?_cons_succ, List.set_cons_zero, List.set_cons_succ, LEN, Nat.reduceLeDiff, Option.map_some, fvA, List.length_map, List.length_set, decide_true, decide_false, fhA, List.mem_cons, List.not_mem_nil, or_false, or_true, Nat.reduceEqDiff, Nat.succ_ne_self, fxA, fwA, fyA, and_true, true_and, imp_self, true_imp_iff, false_imp_iff, implies_true]
          have e2 : grps.length = fs.length := by rw [← hgm, List.length_map]
          have inF : ∀ g ∈ grps, g.ms ∈ fs := fun g mg => by rw [← hgm]; exact List.mem_map.mpr ⟨g, mg, rfl⟩
          refine ⟨⟨gs, grps⟩, rfl, ⟨by dsimp only; omega, by dsimp only; omega, fun g mg => ?_, by dsimp only; omega, fun g mg => ?_, ?_⟩, by dsimp only; omega, hg, by omega⟩
          · have gm := hg g mg
            have := cap_le gm h6 h2 (by omega)
            refine ⟨gm.falls, by have := gm.len; omega, by omega, fun x mx => ?_⟩
            have := gm.gains x mx
            omega
          · have q := hf _ (inF g mg)
            have := hgb g mg
            exact ⟨q.1, q.2.1, q.2.2.1, this⟩
          · rw [← hgm, List.pairwise_map] at hpw
            exact hpw
  obtain ⟨o, t', e, s, rfl, h⟩ := key
  exact ⟨s, t', e, h⟩
theorem ord_int {B k : Nat} {i : Int} (h : i.natAbs ≤ B) : ord B k (.int i) = true := by unfold ord; exact decide_eq_true h
theorem ordA_map {A : Type} {B k : Nat} {f : A → D} {as : List A} (h : ∀ a ∈ as, ord B k (f a) = true) : ordA B k (as.map f) = true := by
  rw [ordA_iff]
  intro d m
  obtain ⟨a, ma, rfl⟩ := List.mem_map.mp m
  exact h a ma
theorem blkA_map {A : Type} {n : Nat} {f : A → D} {as : List A} (h : ∀ a ∈ as, blk (f a) ≤ n) : blkA (as.map f) ≤ (n + 1) * as.length := by
  have := blkA_le (n := n) (a := as.map f) fun d m => by
    obtain ⟨a, ma, rfl⟩ := List.mem_map.mp m
    exact h a ma
  simpa using this
theorem tpI_ord {B k : Nat} {ns : List Int} (h : ∀ x ∈ ns, x.natAbs ≤ B) : ord B (k + 1) (tpI ns) = true := ord_tup (ordA_map fun a m => ord_int (h a m))
theorem tpI_blk {ns : List Int} : blk (tpI ns) = ns.length := by
  simp only [blk]
  induction ns with
  | nil => rfl
  | cons a r ih => simp [blkA, blk, ih]; omega
theorem mul_le' {a b c : Nat} (h : b ≤ c) : a * b ≤ a * c := Nat.mul_le_mul_left a h
theorem valid_ord {s : Sys} (h : Valid s) : ord (10 ^ 12) 4 (syD s) = true ∧ blk (syD s) ≤ 300 ∧ noDct (syD s) = true := by
  have hi := h.n2
  have hm := h.many
  have gok : ∀ g ∈ s.items, ord (10 ^ 12) 2 (gD g) = true ∧ blk (gD g) ≤ 15 := fun g mg => by
    have q := h.gains g mg
    refine ⟨ord_tup (ordA_map fun x mx => ?_), ?_⟩
    · have a := q.2.2.2 x mx
      have f := GC.Falls.pos q.1 x mx
      have c : x.1 ≤ GC.cap g := by
        have : ∀ {g : GC.Gs}, GC.Falls g → ∀ {x : Int × Int}, x ∈ g → x.1 ≤ GC.cap g := by
          intro g
          induction g with
          | nil => intro _ _ m; cases m
          | cons y r ih =>
            obtain ⟨c, b⟩ := y
            rintro ⟨h1, h2, h3⟩ x m
            have n := GC.cap_nonneg h3
            simp only [GC.cap]
            rcases List.mem_cons.mp m with rfl | m
            · dsimp only; omega
            · have := ih h3 m
              omega
        exact this q.1 mx
      exact ord_tup (ordA_cons (ord_int (by omega)) (ordA_cons (ord_int (by omega)) ordA_nil))
    · have := blkA_map (n := 2) (f := stD) (as := g) fun x _ => by simp [stD, blk, blkA]
      have := mul_le' (a := 3) q.2.1
      simp only [gD, blk]
      omega
  have rok : ∀ g ∈ s.groups, ord (10 ^ 12) 2 (grD g) = true ∧ blk (grD g) ≤ 9 := fun g mg => by
    have q := h.grp g mg
    have ml : g.ms.length ≤ 6 := by
      have := GC.nodup_len (b := GC.rangeI s.items.length) q.1.nodup fun x mx => GC.mem_rangeI.mpr (q.2.2.1 x mx)
      rw [GC.rangeI_len] at this
      omega
    refine ⟨ord_tup (ordA_cons (tpI_ord fun x mx => ?_) (ordA_cons (ord_int (by omega)) (ordA_cons (ord_int (by omega)) ordA_nil))), ?_⟩
    · have := q.2.2.1 x mx
      omega
    · have := tpI_blk (ns := g.ms)
      simp only [blk, grD, blkA] at this ⊢
      omega
  refine ⟨ord_tup (ordA_cons (ord_tup (ordA_map fun g mg => (gok g mg).1)) (ordA_cons (ord_tup (ordA_map fun g mg => (rok g mg).1)) ordA_nil)), ?_, ?_⟩
  · have a := blkA_map (n := 15) fun g mg => (gok g mg).2
    have b := blkA_map (n := 9) fun g mg => (rok g mg).2
    have := mul_le' (a := 16) hi
    have := mul_le' (a := 10) hm
    simp only [syD, blk, blkA]
    omega
  · have n1 : ∀ as : List Int, noDctA (as.map D.int) = true := fun as => noDctA_iff.mpr fun d m => by obtain ⟨a, _, rfl⟩ := List.mem_map.mp m; rfl
    simp only [syD, noDct, noDctA, Bool.and_true, Bool.and_eq_true]
    refine ⟨noDctA_iff.mpr fun d m => ?_, noDctA_iff.mpr fun d m => ?_⟩
    · obtain ⟨g, _, rfl⟩ := List.mem_map.mp m
      simp only [gD, noDct]
      refine noDctA_iff.mpr fun d m => ?_
      obtain ⟨x, _, rfl⟩ := List.mem_map.mp m
      rfl
    · obtain ⟨g, _, rfl⟩ := List.mem_map.mp m
      simp [grD, noDct, noDctA, n1]
theorem v_rep1 {d : D} {k : Int} (h1 : -1000 ≤ k) (h2 : k ≤ 1000) : mulD (.tup [d]) (.int k) = some (.tup (List.replicate k.toNat d), false) := by
  show (if _ ∧ _ ∧ _ ∧ _ then _ else none) = _
  rw [if_pos ⟨by simp, h1, h2, by simp⟩]
  have e : (List.replicate k.toNat [d]).flatten = List.replicate k.toNat d := by
    generalize k.toNat = n
    induction n with
    | zero => rfl
    | succ n ih => rw [List.replicate_succ, List.flatten_cons, ih, List.replicate_succ]; rfl
  rw [e]
end FD

/-! P1: the program's first tests of values. -/
namespace FD
open PySem PySem.Spec PyProof.Rows L2
noncomputable def fb_is_between {T : Type} : SF T := (seqF (ifF (orF (notF (callF isiD (consA (varF 0) (consA (conF (.ty "int")) nilA)))) (callF isiD (consA (varF 0) (consA (conF (.ty "bool")) nilA)))) (retF (conF (.bl false))) nxF)
  (retF (chainF leD leD (varF 1) (varF 0) (varF 2))))
noncomputable def FF_is_between {T : Type} : FF T := runF 3 3 fb_is_between
theorem len_is_between {T : Type} {ds : List D} {t : T} {o : FOut × T} (h : FF_is_between ds t = some o) : ds.length = 3 := runF_len h

noncomputable def fb_is_tuple_of {T : Type} : SF T := (retF (andF (callF isiD (consA (varF 0) (consA (conF (.ty "tuple")) nilA))) (binF eqD (callF lenD (consA (varF 0) nilA)) (varF 1))))
noncomputable def FF_is_tuple_of {T : Type} : FF T := runF 2 2 fb_is_tuple_of
theorem len_is_tuple_of {T : Type} {ds : List D} {t : T} {o : FOut × T} (h : FF_is_tuple_of ds t = some o) : ds.length = 2 := runF_len h

def btwD (v : D) (a b : Int) : Bool := match v with
  | .int i => decide (a ≤ i) && decide (i ≤ b)
  | _ => false
theorem btwD_int {v : D} {a b : Int} (h : btwD v a b = true) : ∃ i, v = .int i ∧ a ≤ i ∧ i ≤ b := by
  cases v with
  | int i =>
    simp only [btwD, Bool.and_eq_true, decide_eq_true_eq] at h
    exact ⟨i, rfl, h⟩
  | _ => cases h
theorem between_eq {T : Type} {B k : Nat} {v : D} {a b : Int} {t : T} (h : ord B k v = true) : FF_is_between [v, .int a, .int b] t = some (.ok (.bl (btwD v a b)) false, t) := by
  unfold FF_is_between fb_is_between
  cases v with
  | non => simp only [fdA, List.map_cons, List.map_nil, List.length_cons, List.length_nil, List.cons_append, List.nil_append, List.replicate_succ, List.replicate_zero, Nat.zero_add, Nat.reduceAdd, Nat.reduceSub, Nat.sub_self, if_true, if_false, Bool.false_eq_true, Bool.not_true, Bool.not_false, reduceCtorEq, ite_true, ite_false, List.getElem?_cons_zero, List.getElem?_cons_succ, List.set_cons_zero, List.set_cons_succ, LEN, Nat.reduceLeDiff, Option.map_some, fvA, List.length_map, List.length_set, decide_true, decide_false, fhA, List.mem_cons, List.not_mem_nil, or_false, or_true, Nat.reduceEqDiff, Nat.succ_ne_self, fxA, btwD]
  | bl x => simp only [fdA, List.map_cons, List.map_nil, List.length_cons, List.length_nil, List.cons_append, List.nil_append, List.replicate_succ, List.replicate_zero, Nat.zero_add, Nat.reduceAdd, Nat.reduceSub, Nat.sub_self, if_true, if_false, Bool.false_eq_true, Bool.not_true, Bool.not_false, reduceCtorEq, ite_true, ite_false, List.getElem?_cons_zero, List.getElem?_cons_succ, List.set_cons_zero, List.set_cons_succ, LEN, Nat.reduceLeDiff, Option.map_some, fvA, List.length_map, List.length_set, decide_true, decide_false, fhA, List.mem_cons, List.not_mem_nil, or_false, or_true, Nat.reduceEqDiff, Nat.succ_ne_self, fxA, btwD]
  | str x => simp only [fdA, List.map_cons, List.map_nil, List.length_cons, List.length_nil, List.cons_append, List.nil_append, List.replicate_succ, List.replicate_zero, Nat.zero_add, Nat.reduceAdd, Nat.reduceSub, Nat.sub_self, if_true, if_false, Bool.false_eq_true, Bool.not_true, Bool.not_false, reduceCtorEq, ite_true, ite_false, List.getElem?_cons_zero, List.getElem?_cons_succ, List.set_cons_zero, List.set_cons_succ, LEN, Nat.reduceLeDiff, Option.map_some, fvA, List.length_map, List.length_set, decide_true, decide_false, fhA, List.mem_cons, List.not_mem_nil, or_false, or_true, Nat.reduceEqDiff, Nat.succ_ne_self, fxA, btwD]
  | tup x => simp only [fdA, List.map_cons, List.map_nil, List.length_cons, List.length_nil, List.cons_append, List.nil_append, List.replicate_succ, List.replicate_zero, Nat.zero_add, Nat.reduceAdd, Nat.reduceSub, Nat.sub_self, if_true, if_false, Bool.false_eq_true, Bool.not_true, Bool.not_false, reduceCtorEq, ite_true, ite_false, List.getElem?_cons_zero, List.getElem?_cons_succ, List.set_cons_zero, List.set_cons_succ, LEN, Nat.reduceLeDiff, Option.map_some, fvA, List.length_map, List.length_set, decide_true, decide_false, fhA, List.mem_cons, List.not_mem_nil, or_false, or_true, Nat.reduceEqDiff, Nat.succ_ne_self, fxA, btwD]
  | lst x => simp only [fdA, List.map_cons, List.map_nil, List.length_cons, List.length_nil, List.cons_append, List.nil_append, List.replicate_succ, List.replicate_zero, Nat.zero_add, Nat.reduceAdd, Nat.reduceSub, Nat.sub_self, if_true, if_false, Bool.false_eq_true, Bool.not_true, Bool.not_false, reduceCtorEq, ite_true, ite_false, List.getElem?_cons_zero, List.getElem?_cons_succ, List.set_cons_zero, List.set_cons_succ, LEN, Nat.reduceLeDiff, Option.map_some, fvA, List.length_map, List.length_set, decide_true, decide_false, fhA, List.mem_cons, List.not_mem_nil, or_false, or_true, Nat.reduceEqDiff, Nat.succ_ne_self, fxA, btwD]
  | dct x => simp only [fdA, List.map_cons, List.map_nil, List.length_cons, List.length_nil, List.cons_append, List.nil_append, List.replicate_succ, List.replicate_zero, Nat.zero_add, Nat.reduceAdd, Nat.reduceSub, Nat.sub_self, if_true, if_false, Bool.false_eq_true, Bool.not_true, Bool.not_false, reduceCtorEq, ite_true, ite_false, List.getElem?_cons_zero, List.getElem?_cons_succ, List.set_cons_zero, List.set_cons_succ, LEN, Nat.reduceLeDiff, Option.map_some, fvA, List.length_map, List.length_set, decide_true, decide_false, fhA, List.mem_cons, List.not_mem_nil, or_false, or_true, Nat.reduceEqDiff, Nat.succ_ne_self, fxA, btwD]
  | int i =>
    by_cases h1 : a ≤ i
    · simp only [fdA, List.map_cons, List.map_nil, List.length_cons, List.length_nil, List.cons_append, List.nil_append, List.replicate_succ, List.replicate_zero, Nat.zero_add, Nat.reduceAdd, Nat.reduceSub, Nat.sub_self, if_true, if_false, Bool.false_eq_true, Bool.not_true, Bool.not_false, reduceCtorEq, ite_true, ite_false, List.getElem?_cons_zero, List.getElem?_cons_succ, List.set_cons_zero, List.set_cons_succ, LEN, Nat.reduceLeDiff, Option.map_some, fvA, List.length_map, List.length_set, decide_true, decide_false, fhA, List.mem_cons, List.not_mem_nil, or_false, or_true, Nat.reduceEqDiff, Nat.succ_ne_self, fxA, btwD, h1, Bool.true_and]
    · simp only [fdA, List.map_cons, List.map_nil, List.length_cons, List.length_nil, List.cons_append, List.nil_append, List.replicate_succ, List.replicate_zero, Nat.zero_add, Nat.reduceAdd, Nat.reduceSub, Nat.sub_self, if_true, if_false, Bool.false_eq_true, Bool.not_true, Bool.not_false, reduceCtorEq, ite_true, ite_false, List.getElem?_cons_zero, List.getElem?_cons_succ, List.set_cons_zero, List.set_cons_succ, LEN, Nat.reduceLeDiff, Option.map_some, fvA, List.length_map, List.length_set, decide_true, decide_false, fhA, List.mem_cons, List.not_mem_nil, or_false, or_true, Nat.reduceEqDiff, Nat.succ_ne_self, fxA, btwD, h1, Bool.false_and]
  | obj c fs => simp [ord] at h
  | ty c => simp [ord] at h
  | hnd c => simp [ord] at h
def tupLen (v : D) (m : Nat) : Bool := match v with
  | .tup ds => decide (ds.length = m)
  | _ => false
theorem tuple_of_eq {T : Type} {B k : Nat} {v : D} {m : Nat} {t : T} (h : ord B k v = true) : FF_is_tuple_of [v, .int (m : Int)] t = some (.ok (.bl (tupLen v m)) false, t) := by
  unfold FF_is_tuple_of fb_is_tuple_of
  cases v with
  | non => simp only [fdA, List.map_cons, List.map_nil, List.length_cons, List.length_nil, List.cons_append, List.nil_append, List.replicate_succ, List.replicate_zero, Nat.zero_add, Nat.reduceAdd, Nat.reduceSub, Nat.sub_self, if_true, if_false, Bool.false_eq_true, Bool.not_true, Bool.not_false, reduceCtorEq, ite_true, ite_false, List.getElem?_cons_zero, List.getElem?_cons_succ, List.set_cons_zero, List.set_cons_succ, LEN, Nat.reduceLeDiff, Option.map_some, fvA, List.length_map, List.length_set, decide_true, decide_false, fhA, List.mem_cons, List.not_mem_nil, or_false, or_true, Nat.reduceEqDiff, Nat.succ_ne_self, fxA, tupLen]
  | bl x => simp only [fdA, List.map_cons, List.map_nil, List.length_cons, List.length_nil, List.cons_append, List.nil_append, List.replicate_succ, List.replicate_zero, Nat.zero_add, Nat.reduceAdd, Nat.reduceSub, Nat.sub_self, if_true, if_false, Bool.false_eq_true, Bool.not_true, Bool.not_false, reduceCtorEq, ite_true, ite_false, List.getElem?_cons_zero, List.getElem?_cons_succ, List.set_cons_zero, List.set_cons_succ, LEN, Nat.reduceLeDiff, Option.map_some, fvA, List.length_map, List.length_set, decide_true, decide_false, fhA, List.mem_cons, List.not_mem_nil, or_false, or_true, Nat.reduceEqDiff, Nat.succ_ne_self, fxA, tupLen]
  | str x => simp only [fdA, List.map_cons, List.map_nil, List.length_cons, List.length_nil, List.cons_append, List.nil_append, List.replicate_succ, List.replicate_zero, Nat.zero_add, Nat.reduceAdd, Nat.reduceSub, Nat.sub_self, if_true, if_false, Bool.false_eq_true, Bool.not_true, Bool.not_false, reduceCtorEq, ite_true, ite_false, List.getElem?_cons_zero, List.getElem?_cons_succ, List.set_cons_zero, List.set_cons_succ, LEN, Nat.reduceLeDiff, Option.map_some, fvA, List.length_map, List.length_set, decide_true, decide_false, fhA, List.mem_cons, List.not_mem_nil, or_false, or_true, Nat.reduceEqDiff, Nat.succ_ne_self, fxA, tupLen]
  | tup x => simp only [fdA, List.map_cons, List.map_nil, List.length_cons, List.length_nil, List.cons_append, List.nil_append, List.replicate_succ, List.replicate_zero, Nat.zero_add, Nat.reduceAdd, Nat.reduceSub, Nat.sub_self, if_true, if_false, Bool.false_eq_true, Bool.not_true, Bool.not_false, reduceCtorEq, ite_true, ite_false, List.getElem?_cons_zero, List.getElem?_cons_succ, List.set_cons_zero, List.set_cons_succ, LEN, Nat.reduceLeDiff, Option.map_some, fvA, List.length_map, List.length_set, decide_true, decide_false, fhA, List.mem_cons, List.not_mem_nil, or_false, or_true, Nat.reduceEqDiff, Nat.succ_ne_self, fxA, tupLen, Int.ofNat_inj]
  | lst x => simp only [fdA, List.map_cons, List.map_nil, List.length_cons, List.length_nil, List.cons_append, List.nil_append, List.replicate_succ, List.replicate_zero, Nat.zero_add, Nat.reduceAdd, Nat.reduceSub, Nat.sub_self, if_true, if_false, Bool.false_eq_true, Bool.not_true, Bool.not_false, reduceCtorEq, ite_true, ite_false, List.getElem?_cons_zero, List.getElem?_cons_succ, List.set_cons_zero, List.set_cons_succ, LEN, Nat.reduceLeDiff, Option.map_some, fvA, List.length_map, List.length_set, decide_true, decide_false, fhA, List.mem_cons, List.not_mem_nil, or_false, or_true, Nat.reduceEqDiff, Nat.succ_ne_self, fxA, tupLen]
  | dct x => simp only [fdA, List.map_cons, List.map_nil, List.length_cons, List.length_nil, List.cons_append, List.nil_append, List.replicate_succ, List.replicate_zero, Nat.zero_add, Nat.reduceAdd, Nat.reduceSub, Nat.sub_self, if_true, if_false, Bool.false_eq_true, Bool.not_true, Bool.not_false, reduceCtorEq, ite_true, ite_false, List.getElem?_cons_zero, List.getElem?_cons_succ, List.set_cons_zero, List.set_cons_succ, LEN, Nat.reduceLeDiff, Option.map_some, fvA, List.length_map, List.length_set, decide_true, decide_false, fhA, List.mem_cons, List.not_mem_nil, or_false, or_true, Nat.reduceEqDiff, Nat.succ_ne_self, fxA, tupLen]
  | int i => simp only [fdA, List.map_cons, List.map_nil, List.length_cons, List.length_nil, List.cons_append, List.nil_append, List.replicate_succ, List.replicate_zero, Nat.zero_add, Nat.reduceAdd, Nat.reduceSub, Nat.sub_self, if_true, if_false, Bool.false_eq_true, Bool.not_true, Bool.not_false, reduceCtorEq, ite_true, ite_false, List.getElem?_cons_zero, List.getElem?_cons_succ, List.set_cons_zero, List.set_cons_succ, LEN, Nat.reduceLeDiff, Option.map_some, fvA, List.length_map, List.length_set, decide_true, decide_false, fhA, List.mem_cons, List.not_mem_nil, or_false, or_true, Nat.reduceEqDiff, Nat.succ_ne_self, fxA, tupLen]
  | obj c fs => simp [ord] at h
  | ty c => simp [ord] at h
  | hnd c => simp [ord] at h
end FD

/-! P2: prices of groups and their bounds, by the program and by laws. -/
namespace FD
open PySem PySem.Spec PyProof.Rows L2
noncomputable def fb_is_prices {T : Type} : SF T := (seqF (ifF (notF (ucallF FF_is_tuple_of (consA (varF 1) (consA (callF lenD (consA (binF ixD (varF 0) (conF (.int 1))) nilA)) nilA)))) (retF (conF (.bl false))) nxF)
  (retF (callF allD (consA (lcF [] [2] (seqI (varF 1)) (nameG 2) yesF (ucallF FF_is_between (consA (varF 2) (consA (unF negD (conF (.int 999999999999999999999999999999))) (consA (conF (.int 999999999999999999999999999999)) nilA))))) nilA))))
noncomputable def FF_is_prices {T : Type} : FF T := runF 3 2 fb_is_prices
theorem len_is_prices {T : Type} {ds : List D} {t : T} {o : FOut × T} (h : FF_is_prices ds t = some o) : ds.length = 2 := runF_len h

noncomputable def fb_price_of_item {T : Type} : SF T := (retF (callF sumD (consA (lcF [2] [3, 4] (callI zipD (consA (varF 1) (consA (binF ixD (varF 0) (conF (.int 1))) nilA))) (tupG 2 (consG (nameG 3) (consG (nameG 4) nilG))) (binF inD (varF 2) (binF ixD (varF 4) (conF (.int 0)))) (varF 3)) nilA)))
noncomputable def FF_price_of_item {T : Type} : FF T := runF 5 3 fb_price_of_item
theorem len_price_of_item {T : Type} {ds : List D} {t : T} {o : FOut × T} (h : FF_price_of_item ds t = some o) : ds.length = 3 := runF_len h

noncomputable def fb_gain_above {T : Type} : SF T := (retF (callF sumD (consA (lcF [1] [2, 3] (seqI (varF 0)) (tupG 2 (consG (nameG 2) (consG (nameG 3) nilG))) (binF gtD (varF 3) (varF 1)) (binF mulD (varF 2) (binF subD (varF 3) (varF 1)))) nilA)))
noncomputable def FF_gain_above {T : Type} : FF T := runF 4 2 fb_gain_above
theorem len_gain_above {T : Type} {ds : List D} {t : T} {o : FOut × T} (h : FF_gain_above ds t = some o) : ds.length = 2 := runF_len h

noncomputable def fb_price_bound {T : Type} : SF T := (seqF (ifF (notF (ucallF FF_is_prices (consA (varF 0) (consA (varF 1) nilA)))) (retF (conF .non)) nxF)
  (seqF (setF 2 (conF (.int 0)))
  (seqF (forF (callI enumD (consA (binF ixD (varF 0) (conF (.int 0))) nilA)) (tupG 2 (consG (nameG 3) (consG (nameG 4) nilG))) (augF 2 addI (ucallF FF_gain_above (consA (varF 4) (consA (ucallF FF_price_of_item (consA (varF 0) (consA (varF 1) (consA (varF 3) nilA)))) nilA)))))
  (seqF (forF (callI zipD (consA (varF 1) (consA (binF ixD (varF 0) (conF (.int 1))) nilA))) (tupG 2 (consG (nameG 5) (consG (tupG 3 (consG (nameG 6) (consG (nameG 7) (consG (nameG 8) nilG)))) nilG))) (augF 2 addI (binF mulD (varF 5) (branchF (binF gtD (varF 5) (conF (.int 0))) (varF 8) (varF 7)))))
  (retF (varF 2))))))
noncomputable def FF_price_bound {T : Type} : FF T := runF 9 2 fb_price_bound
theorem len_price_bound {T : Type} {ds : List D} {t : T} {o : FOut × T} (h : FF_price_bound ds t = some o) : ds.length = 2 := runF_len h

noncomputable def fb_q_item_price : SF DS := (retF (callF sumD (consA (lcF [2] [3, 4] (callI zipD (consA (varF 1) (consA (binF ixD (varF 0) (conF (.int 1))) nilA))) (tupG 2 (consG (nameG 3) (consG (nameG 4) nilG))) (binF inD (varF 2) (binF ixD (varF 4) (conF (.int 0)))) (varF 3)) nilA)))
noncomputable def FF_q_item_price : FF DS := runF 5 3 fb_q_item_price
theorem len_q_item_price {ds : List D} {t : DS} {o : FOut × DS} (h : FF_q_item_price ds t = some o) : ds.length = 3 := runF_len h

noncomputable def fb_q_item_value : SF DS := (seqF (par3CF 2 3 4 (lstF (consA (conF (.int 0)) nilA)) (D.int 0) (D.int 0))
  (seqF (forF (seqI (varF 0)) (tupG 2 (consG (nameG 5) (consG (nameG 6) nilG))) (seqF (parF 3 4 (binF addD (varF 3) (varF 5)) (binF addD (varF 4) (binF mulD (varF 5) (varF 6))))
  (dropF (mutF 2 appD (consA (binF subD (varF 4) (binF mulD (varF 1) (varF 3))) nilA)))))
  (retF (callF maxD (consA (varF 2) nilA)))))
noncomputable def FF_q_item_value : FF DS := runF 7 2 fb_q_item_value
theorem len_q_item_value {ds : List D} {t : DS} {o : FOut × DS} (h : FF_q_item_value ds t = some o) : ds.length = 2 := runF_len h

noncomputable def fb_q_price_bound : SF DS := (seqF (ifF (orF (notF (callF isiD (consA (varF 1) (consA (conF (.ty "tuple")) nilA)))) (binF neD (callF lenD (consA (varF 1) nilA)) (callF lenD (consA (binF ixD (varF 0) (conF (.int 1))) nilA)))) (retF (conF .non)) nxF)
  (seqF (ifF (binF neD (lcF [] [2] (seqI (varF 1)) (nameG 2) (orF (notF (ucallF FF_q_whole (consA (varF 2) nilA))) (notF (chainF ltD ltD (unF negD (binF powD (conF (.int 10)) (conF (.int 30)))) (varF 2) (binF powD (conF (.int 10)) (conF (.int 30)))))) (varF 2)) (lstF nilA)) (retF (conF .non)) nxF)
  (seqF (setF 3 (conF (.int 0)))
  (seqF (forF (callI enumD (consA (binF ixD (varF 0) (conF (.int 0))) nilA)) (tupG 2 (consG (nameG 4) (consG (nameG 5) nilG))) (setF 3 (binF addD (varF 3) (ucallF FF_q_item_value (consA (varF 5) (consA (ucallF FF_q_item_price (consA (varF 0) (consA (varF 1) (consA (varF 4) nilA)))) nilA))))))
  (seqF (forF (callI zipD (consA (varF 1) (consA (binF ixD (varF 0) (conF (.int 1))) nilA))) (tupG 2 (consG (nameG 2) (consG (nameG 6) nilG))) (setF 3 (binF addD (varF 3) (callF max2D (consA (binF mulD (varF 2) (binF ixD (varF 6) (conF (.int 1)))) (consA (binF mulD (varF 2) (binF ixD (varF 6) (conF (.int 2)))) nilA))))))
  (retF (varF 3)))))))
noncomputable def FF_q_price_bound : FF DS := runF 7 2 fb_q_price_bound
theorem len_q_price_bound {ds : List D} {t : DS} {o : FOut × DS} (h : FF_q_price_bound ds t = some o) : ds.length = 2 := runF_len h

theorem pairD_map {A B : Type} (f : A → D) (g : B → D) : ∀ (as : List A) (bs : List B), pairD (as.map f) (bs.map g) = (as.zip bs).map fun z => .tup [f z.1, g z.2]
  | [], _ => by simp [pairD]
  | _ :: _, [] => by simp [pairD]
  | a :: as, b :: bs => by simp [pairD, pairD_map f g as bs]
theorem eqB_int (a b : Int) : eqB (.int a) (.int b) = decide (a = b) := by simp [eqB, py, eqv_int]
theorem v_in_tp {i : Int} {ms : List Int} : inD (.int i) (tpI ms) = some (.bl (decide (i ∈ ms)), false) := by
  have h : okD 63 (.int i) = true ∧ okAll 63 (ms.map D.int) = true := ⟨by simp [okD], okAll_int _ _⟩
  show (if _ then _ else _) = _
  rw [if_pos h]
  congr 3
  rw [List.any_map]
  induction ms with
  | nil => simp
  | cons m r ih => 
    have e : okAll 63 (r.map D.int) = true := okAll_int _ _
    simp only [List.any_cons, Function.comp, eqB_int] at ih ⊢
    rw [ih ⟨h.1, e⟩]
    simp only [List.mem_cons]
    by_cases q : m = i
    · subst q; simp
    · have q' : ¬ i = m := fun z => q z.symm
      simp [q, q']
def maxP : Int := 999999999999999999999999999999
def pricesB (m : Nat) (v : D) : Bool := match v with
  | .tup ds => decide (ds.length = m) && ds.all fun d => btwD d (-maxP) maxP
  | _ => false
theorem prices_int {m : Nat} {v : D} (h : pricesB m v = true) : ∃ ps : List Int, v = tpI ps ∧ ps.length = m ∧ ∀ p ∈ ps, -maxP ≤ p ∧ p ≤ maxP := by
  cases v with
  | tup ds =>
    simp only [pricesB, Bool.and_eq_true, decide_eq_true_eq, List.all_eq_true] at h
    obtain ⟨ps, rfl, hp⟩ := ints_of (Q := fun p => -maxP ≤ p ∧ p ≤ maxP) (out := ds) fun d m => btwD_int (h.2 d m)
    exact ⟨ps, rfl, by simpa using h.1, hp⟩
  | _ => cases h
theorem blsD_mapP {A : Type} (p : A → Bool) : ∀ as : List A, blsD (as.map fun a => D.bl (p a)) = some (as.map p)
  | [] => by simp [blsD]
  | a :: as => by simp [blsD, blsD_mapP p as]
theorem v_allM {A : Type} {as : List A} {p : A → Bool} : allD [.lst (as.map fun a => .bl (p a))] = some (.bl (as.all p), false) := by
  simp [allD, blsD_mapP, List.all_map, Function.comp]
theorem v_anyM {A : Type} {as : List A} {p : A → Bool} : anyD [.lst (as.map fun a => .bl (p a))] = some (.bl (as.any p), false) := by
  simp [anyD, blsD_mapP, List.any_map, Function.comp]
theorem prices_eq {T : Type} {B k : Nat} {s : Sys} {v : D} {t : T} (h : ord B k v = true) (hb : blk v ≤ 100000) : FF_is_prices [syD s, v] t = some (.ok (.bl (pricesB s.groups.length v)) false, t) := by
  have h1 := tuple_of_eq (m := s.groups.length) (t := t) h
  have ix : ixD (syD s) (.int 1) = some (.tup (s.groups.map grD), false) := v_ix_t at1
  refine w_eq ?_
  unfold FF_is_prices fb_is_prices
  simp only [fdA, List.map_cons, List.map_nil, List.length_cons, List.length_nil, List.cons_append, List.nil_append, List.replicate_succ, List.replicate_zero, Nat.zero_add, Nat.reduceAdd, Nat.reduceSub, Nat.sub_self, if_true, if_false, Bool.false_eq_true, Bool.not_true, Bool.not_false, reduceCtorEq, ite_true, ite_false, List.getElem?_cons_zero, List.getElem?_cons_succ, List.set_cons_zero, List.set_cons_succ, LEN, Nat.reduceLeDiff, Option.map_some, fvA, List.length_map, List.length_set, decide_true, decide_false, fhA, List.mem_cons, List.not_mem_nil, or_false, or_true, Nat.reduceEqDiff, Nat.succ_ne_self, fxA, fwA, fyA, and_true, true_and, imp_self, true_imp_iff, false_imp_iff, implies_true, ix, h1]
  refine ⟨fun e => ?_, fun e => ?_⟩
  · cases v with
    | tup ds =>
      simp only [tupLen] at e
      simp only [blk] at hb
      obtain ⟨k', rfl⟩ : ∃ k', k = k' + 1 := by
        cases k with
        | zero => simp [ord] at h
        | succ k' => exact ⟨k', rfl⟩
      unfold ord at h
      have hl := blkA_len (a := ds)
      simp only [fdA, List.map_cons, List.map_nil, List.length_cons, List.length_nil, List.cons_append, List.nil_append, List.replicate_succ, List.replicate_zero, Nat.zero_add, Nat.reduceAdd, Nat.reduceSub, Nat.sub_self, if_true, if_false, Bool.false_eq_true, Bool.not_true, Bool.not_false, reduceCtorEq, ite_true, ite_false, List.getElem?_cons_zero, List.getElem?_cons_succ, List.set_cons_zero, List.set_cons_succ, LEN, Nat.reduceLeDiff, Option.map_some, fvA, List.length_map, List.length_set, decide_true, decide_false, fhA, List.mem_cons, List.not_mem_nil, or_false, or_true, Nat.reduceEqDiff, Nat.succ_ne_self, fxA, fwA, fyA, and_true, true_and, imp_self, true_imp_iff, false_imp_iff, implies_true, v_neg]
      refine ⟨by omega, w_map ds (fun d => d) (by simp) (fun d => .bl (btwD d (-maxP) maxP)) (fun d hd => ?_) ?_⟩
      · simp only [fdA, List.map_cons, List.map_nil, List.length_cons, List.length_nil, List.cons_append, List.nil_append, List.replicate_succ, List.replicate_zero, Nat.zero_add, Nat.reduceAdd, Nat.reduceSub, Nat.sub_self, if_true, if_false, Bool.false_eq_true, Bool.not_true, Bool.not_false, reduceCtorEq, ite_true, ite_false, List.getElem?_cons_zero, List.getElem?_cons_succ, List.set_cons_zero, List.set_cons_succ, LEN, Nat.reduceLeDiff, Option.map_some, fvA, List.length_map, List.length_set, decide_true, decide_false, fhA, List.mem_cons, List.not_mem_nil, or_false, or_true, Nat.reduceEqDiff, Nat.succ_ne_self, fxA, fwA, fyA, and_true, true_and, imp_self, true_imp_iff, false_imp_iff, implies_true, v_neg, between_eq (a := -999999999999999999999999999999) (b := 999999999999999999999999999999) (t := t) (ordA_iff.mp h d hd)]
        rfl
      · simp only [fdA, List.map_cons, List.map_nil, List.length_cons, List.length_nil, List.cons_append, List.nil_append, List.replicate_succ, List.replicate_zero, Nat.zero_add, Nat.reduceAdd, Nat.reduceSub, Nat.sub_self, if_true, if_false, Bool.false_eq_true, Bool.not_true, Bool.not_false, reduceCtorEq, ite_true, ite_false, List.getElem?_cons_zero, List.getElem?_cons_succ, List.set_cons_zero, List.set_cons_succ, LEN, Nat.reduceLeDiff, Option.map_some, fvA, List.length_map, List.length_set, decide_true, decide_false, fhA, List.mem_cons, List.not_mem_nil, or_false, or_true, Nat.reduceEqDiff, Nat.succ_ne_self, fxA, fwA, fyA, and_true, true_and, imp_self, true_imp_iff, false_imp_iff, implies_true, v_allM, pricesB, e, Bool.true_and]
    | _ => cases e
  · cases v with
    | tup ds => 
      simp only [tupLen] at e
      simp only [pricesB, e, Bool.false_and]
    | _ => first | rfl | cases e
def priceOf (s : Sys) (ps : List Int) (i : Int) : Int := (((ps.zip s.groups).filter fun z => decide (i ∈ z.2.ms)).map (·.1)).sum
theorem price_of_item_eq {T : Type} {s : Sys} {ps : List Int} {i : Int} {t : T} (h : s.groups.length ≤ 100) : FF_price_of_item [syD s, tpI ps, .int i] t = some (.ok (.int (priceOf s ps i)) false, t) := by
  have ix : ixD (syD s) (.int 1) = some (.tup (s.groups.map grD), false) := v_ix_t at1
  have zl : (ps.zip s.groups).length ≤ 100 := by
    rw [List.length_zip]
    omega
  refine w_eq ?_
  unfold FF_price_of_item fb_price_of_item
  simp only [tpI] at *
  simp only [fdA, List.map_cons, List.map_nil, List.length_cons, List.length_nil, List.cons_append, List.nil_append, List.replicate_succ, List.replicate_zero, Nat.zero_add, Nat.reduceAdd, Nat.reduceSub, Nat.sub_self, if_true, if_false, Bool.false_eq_true, Bool.not_true, Bool.not_false, reduceCtorEq, ite_true, ite_false, List.getElem?_cons_zero, List.getElem?_cons_succ, List.set_cons_zero, List.set_cons_succ, LEN, Nat.reduceLeDiff, Option.map_some, fvA, List.length_map, List.length_set, decide_true, decide_false, fhA, List.mem_cons, List.not_mem_nil, or_false, or_true, Nat.reduceEqDiff, Nat.succ_ne_self, fxA, fwA, fyA, and_true, true_and, imp_self, true_imp_iff, false_imp_iff, implies_true, ix, pairD_map]
  refine ⟨by omega, w_fm (ps.zip s.groups) (fun z => .tup [.int z.1, grD z.2]) rfl (fun z => decide (i ∈ z.2.ms)) (fun z => .int z.1) (fun z _ => ?_) ?_⟩
  · have e : ixD (grD z.2) (.int 0) = some (tpI z.2.ms, false) := v_ix_t at0
    simp only [fdA, List.map_cons, List.map_nil, List.length_cons, List.length_nil, List.cons_append, List.nil_append, List.replicate_succ, List.replicate_zero, Nat.zero_add, Nat.reduceAdd, Nat.reduceSub, Nat.sub_self, if_true, if_false, Bool.false_eq_true, Bool.not_true, Bool.not_false, reduceCtorEq, ite_true, ite_false, List.getElem?_cons_zero, List.getElem?_cons_succ, List.set_cons_zero, List.set_cons_succ, LEN, Nat.reduceLeDiff, Option.map_some, fvA, List.length_map, List.length_set, decide_true, decide_false, fhA, List.mem_cons, List.not_mem_nil, or_false, or_true, Nat.reduceEqDiff, Nat.succ_ne_self, fxA, fwA, fyA, and_true, true_and, imp_self, true_imp_iff, false_imp_iff, implies_true, e, v_in_tp]
  · simp only [fdA, List.map_cons, List.map_nil, List.length_cons, List.length_nil, List.cons_append, List.nil_append, List.replicate_succ, List.replicate_zero, Nat.zero_add, Nat.reduceAdd, Nat.reduceSub, Nat.sub_self, if_true, if_false, Bool.false_eq_true, Bool.not_true, Bool.not_false, reduceCtorEq, ite_true, ite_false, List.getElem?_cons_zero, List.getElem?_cons_succ, List.set_cons_zero, List.set_cons_succ, LEN, Nat.reduceLeDiff, Option.map_some, fvA, List.length_map, List.length_set, decide_true, decide_false, fhA, List.mem_cons, List.not_mem_nil, or_false, or_true, Nat.reduceEqDiff, Nat.succ_ne_self, fxA, fwA, fyA, and_true, true_and, imp_self, true_imp_iff, false_imp_iff, implies_true, v_sumM, priceOf]
theorem v_mul {i j : Int} (h : i.natAbs < 2 ^ 1000) (k : j.natAbs < 2 ^ 1000) : mulD (.int i) (.int j) = some (.int (i * j), false) := by
  unfold mulD
  exact if_pos ⟨Nat.lt_trans h (Nat.pow_lt_pow_right (by decide) (by decide)), Nat.lt_trans k (Nat.pow_lt_pow_right (by decide) (by decide))⟩
theorem wide (i : Int) (h : -(10 ^ 100) ≤ i ∧ i ≤ 10 ^ 100) : i.natAbs < 2 ^ 1000 := by
  have : i.natAbs ≤ 10 ^ 100 := by omega
  exact Nat.lt_of_le_of_lt this (by decide)
theorem conj_fm (p : Int) : ∀ g : GC.Gs, ((g.filter fun x => decide (p < x.2)).map fun x => x.1 * (x.2 - p)).sum = GC.conj g p
  | [] => rfl
  | (c, a) :: r => by
    have ih := conj_fm p r
    simp only [GC.conj]
    by_cases h : p < a
    · rw [List.filter_cons_of_pos (by simpa using h), if_pos h]
      simp [ih]
    · rw [List.filter_cons_of_neg (by simpa using h), if_neg h]
      simp [ih]
theorem gain_above_eq {T : Type} {g : GC.Gs} {p : Int} {t : T} (h : g.length ≤ 100000) (hp : -(10 ^ 50) ≤ p ∧ p ≤ 10 ^ 50) (hg : ∀ x ∈ g, 0 ≤ x.1 ∧ x.1 ≤ 1000000000000 ∧ -1000000 ≤ x.2 ∧ x.2 ≤ 1000000) :
    FF_gain_above [gD g, .int p] t = some (.ok (.int (GC.conj g p)) false, t) := by
  refine w_eq ?_
  unfold FF_gain_above fb_gain_above gD
  simp only [fdA, List.map_cons, List.map_nil, List.length_cons, List.length_nil, List.cons_append, List.nil_append, List.replicate_succ, List.replicate_zero, Nat.zero_add, Nat.reduceAdd, Nat.reduceSub, Nat.sub_self, if_true, if_false, Bool.false_eq_true, Bool.not_true, Bool.not_false, reduceCtorEq, ite_true, ite_false, List.getElem?_cons_zero, List.getElem?_cons_succ, List.set_cons_zero, List.set_cons_succ, LEN, Nat.reduceLeDiff, Option.map_some, fvA, List.length_map, List.length_set, decide_true, decide_false, fhA, List.mem_cons, List.not_mem_nil, or_false, or_true, Nat.reduceEqDiff, Nat.succ_ne_self, fxA, fwA, fyA, and_true, true_and, imp_self, true_imp_iff, false_imp_iff, implies_true]
  refine ⟨by simpa using h, w_fm g stD rfl (fun x => decide (p < x.2)) (fun x => .int (x.1 * (x.2 - p))) (fun x hx => ?_) ?_⟩
  · have := hg x hx
    have e := v_mul (i := x.1) (j := x.2 - p) (wide _ (by omega)) (wide _ (by omega))
    unfold stD
    simp only [fdA, List.map_cons, List.map_nil, List.length_cons, List.length_nil, List.cons_append, List.nil_append, List.replicate_succ, List.replicate_zero, Nat.zero_add, Nat.reduceAdd, Nat.reduceSub, Nat.sub_self, if_true, if_false, Bool.false_eq_true, Bool.not_true, Bool.not_false, reduceCtorEq, ite_true, ite_false, List.getElem?_cons_zero, List.getElem?_cons_succ, List.set_cons_zero, List.set_cons_succ, LEN, Nat.reduceLeDiff, Option.map_some, fvA, List.length_map, List.length_set, decide_true, decide_false, fhA, List.mem_cons, List.not_mem_nil, or_false, or_true, Nat.reduceEqDiff, Nat.succ_ne_self, fxA, fwA, fyA, and_true, true_and, imp_self, true_imp_iff, false_imp_iff, implies_true, e]
  · simp only [fdA, List.map_cons, List.map_nil, List.length_cons, List.length_nil, List.cons_append, List.nil_append, List.replicate_succ, List.replicate_zero, Nat.zero_add, Nat.reduceAdd, Nat.reduceSub, Nat.sub_self, if_true, if_false, Bool.false_eq_true, Bool.not_true, Bool.not_false, reduceCtorEq, ite_true, ite_false, List.getElem?_cons_zero, List.getElem?_cons_succ, List.set_cons_zero, List.set_cons_succ, LEN, Nat.reduceLeDiff, Option.map_some, fvA, List.length_map, List.length_set, decide_true, decide_false, fhA, List.mem_cons, List.not_mem_nil, or_false, or_true, Nat.reduceEqDiff, Nat.succ_ne_self, fxA, fwA, fyA, and_true, true_and, imp_self, true_imp_iff, false_imp_iff, implies_true, v_sumM, conj_fm]
theorem enumL_map {A : Type} (f : A → D) : ∀ (as : List A) (k : Nat), enumL k (as.map f) = (as.zipIdx k).map fun z => .tup [.int (z.2 : Nat), f z.1]
  | [], _ => rfl
  | a :: as, k => by simp only [List.map_cons, enumL, List.zipIdx_cons, enumL_map f as (k + 1)]
theorem count_le : ∀ {g : GC.Gs}, GC.Falls g → ∀ {x : Int × Int}, x ∈ g → 0 < x.1 ∧ x.1 ≤ GC.cap g
  | (c, a) :: r, ⟨h1, h2, h3⟩, x, m => by
    have n := GC.cap_nonneg h3
    simp only [GC.cap]
    rcases List.mem_cons.mp m with rfl | m
    · exact ⟨h1, by dsimp only; omega⟩
    · have := count_le h3 m
      omega
/-- the bound of prices -/
def boundOf (s : Sys) (ps : List Int) : Int := (s.items.zipIdx.map fun z => GC.conj z.1 (priceOf s ps (z.2 : Nat))).sum + ((ps.zip s.groups).map fun z => z.1 * (if 0 < z.1 then z.2.hi else z.2.lo)).sum
theorem zip_sum_le : ∀ {l : List (Int × Grp)}, (∀ z ∈ l, -maxP ≤ z.1 ∧ z.1 ≤ maxP) → -maxP * l.length ≤ (l.map (·.1)).sum ∧ (l.map (·.1)).sum ≤ maxP * l.length
  | [], _ => by simp
  | z :: r, h => by
    have h1 := h z (List.mem_cons_self ..)
    have h2 := zip_sum_le (l := r) fun x m => h x (List.mem_cons_of_mem _ m)
    simp only [List.map_cons, List.sum_cons, List.length_cons, Int.natCast_add, Int.mul_add]
    omega
theorem priceOf_le {s : Sys} {ps : List Int} {i : Int} (h : s.groups.length ≤ 8) (hp : ∀ p ∈ ps, -maxP ≤ p ∧ p ≤ maxP) : -(10 ^ 40) ≤ priceOf s ps i ∧ priceOf s ps i ≤ 10 ^ 40 := by
  unfold priceOf
  have l : ((ps.zip s.groups).filter fun z => decide (i ∈ z.2.ms)).length ≤ 8 := by
    have := List.length_filter_le (fun z : Int × Grp => decide (i ∈ z.2.ms)) (ps.zip s.groups)
    rw [List.length_zip] at this
    omega
  have q := zip_sum_le (l := (ps.zip s.groups).filter fun z => decide (i ∈ z.2.ms)) fun z m => hp z.1 (List.of_mem_zip (List.mem_filter.mp m).1).1
  unfold maxP at q
  omega
theorem price_bound_eq {T : Type} {B k : Nat} {s : Sys} {v : D} {t : T} (hs : Valid s) (h : ord B k v = true) (hb : blk v ≤ 100000) :
    (pricesB s.groups.length v = false → FF_price_bound [syD s, v] t = some (.ok .non false, t)) ∧ (∀ ps, v = tpI ps → pricesB s.groups.length v = true → FF_price_bound [syD s, v] t = some (.ok (.int (boundOf s ps)) false, t)) := by
  have e1 := prices_eq (s := s) (t := t) h hb
  refine ⟨fun e => ?_, fun ps ev e => ?_⟩
  · rw [e] at e1
    unfold FF_price_bound fb_price_bound
    simp only [fdA, List.map_cons, List.map_nil, List.length_cons, List.length_nil, List.cons_append, List.nil_append, List.replicate_succ, List.replicate_zero, Nat.zero_add, Nat.reduceAdd, Nat.reduceSub, Nat.sub_self, if_true, if_false, Bool.false_eq_true, Bool.not_true, Bool.not_false, reduceCtorEq, ite_true, ite_false, List.getElem?_cons_zero, List.getElem?_cons_succ, List.set_cons_zero, List.set_cons_succ, LEN, Nat.reduceLeDiff, Option.map_some, fvA, List.length_map, List.length_set, decide_true, decide_false, fhA, List.mem_cons, List.not_mem_nil, or_false, or_true, Nat.reduceEqDiff, Nat.succ_ne_self, fxA, e1]
  · obtain ⟨ps', ev', hl, hp⟩ := prices_int e
    have : ps' = ps := by
      rw [ev] at ev'
      simp only [tpI, D.tup.injEq] at ev'
      exact (List.map_inj_right (fun a b h => by cases h; rfl)).mp ev'.symm
    subst this
    rw [e] at e1
    have ix0 : ixD (syD s) (.int 0) = some (.tup (s.items.map gD), false) := v_ix_t at0
    have ix1 : ixD (syD s) (.int 1) = some (.tup (s.groups.map grD), false) := v_ix_t at1
    subst ev
    refine w_eq ?_
    unfold FF_price_bound fb_price_bound
    simp only [tpI] at *
    have en : enumD [.tup (s.items.map gD)] = some (enumL 0 (s.items.map gD)) := rfl
    simp only [fdA, List.map_cons, List.map_nil, List.length_cons, List.length_nil, List.cons_append, List.nil_append, List.replicate_succ, List.replicate_zero, Nat.zero_add, Nat.reduceAdd, Nat.reduceSub, Nat.sub_self, if_true, if_false, Bool.false_eq_true, Bool.not_true, Bool.not_false, reduceCtorEq, ite_true, ite_false, List.getElem?_cons_zero, List.getElem?_cons_succ, List.set_cons_zero, List.set_cons_succ, LEN, Nat.reduceLeDiff, Option.map_some, fvA, List.length_map, List.length_set, decide_true, decide_false, fhA, List.mem_cons, List.not_mem_nil, or_false, or_true, Nat.reduceEqDiff, Nat.succ_ne_self, fxA, fwA, fyA, and_true, true_and, imp_self, true_imp_iff, false_imp_iff, implies_true, e1, ix0, en]
    refine w_forA s.items.zipIdx (fun z => .tup [.int (z.2 : Nat), gD z.1]) (enumL_map gD s.items 0) (fun l s1 => ∃ x3 x4 x5 x6 x7 x8, s1.1 = [.v (syD s), .v (tpI ps'), .v (.int (l.map fun z => GC.conj z.1 (priceOf s ps' (z.2 : Nat))).sum), x3, x4, x5, x6, x7, x8] ∧ s1.2 = t) ⟨_, _, _, _, _, _, rfl, rfl⟩ ?_ ?_
    · rintro l z r ⟨τ, u⟩ el ⟨x3, x4, x5, x6, x7, x8, rfl, rfl⟩
      have hz : z ∈ s.items.zipIdx := by rw [el]; simp
      have hzm := hs.gains z.1 (List.fst_mem_of_mem_zipIdx hz)
      have pe := price_of_item_eq (s := s) (ps := ps') (i := (z.2 : Nat)) (t := u) (by have := hs.many; omega)
      have pl := priceOf_le (s := s) (ps := ps') (i := (z.2 : Nat)) hs.many hp
      have cs : ∀ x ∈ z.1, 0 ≤ x.1 ∧ x.1 ≤ 1000000000000 ∧ -1000000 ≤ x.2 ∧ x.2 ≤ 1000000 := fun x hx => by
        have a := count_le hzm.1 hx
        have b := hzm.2.2.1
        have c := hzm.2.2.2 x hx
        omega
      have ge := gain_above_eq (g := z.1) (p := priceOf s ps' (z.2 : Nat)) (t := u) (by omega) (by omega) cs
      simp only [fdA, List.map_cons, List.map_nil, List.length_cons, List.length_nil, List.cons_append, List.nil_append, List.replicate_succ, List.replicate_zero, Nat.zero_add, Nat.reduceAdd, Nat.reduceSub, Nat.sub_self, if_true, if_false, Bool.false_eq_true, Bool.not_true, Bool.not_false, reduceCtorEq, ite_true, ite_false, List.getElem?_cons_zero, List.getElem?_cons_succ, List.set_cons_zero, List.set_cons_succ, LEN, Nat.reduceLeDiff, Option.map_some, fvA, List.length_map, List.length_set, decide_true, decide_false, fhA, List.mem_cons, List.not_mem_nil, or_false, or_true, Nat.reduceEqDiff, Nat.succ_ne_self, fxA, fwA, fyA, and_true, true_and, imp_self, true_imp_iff, false_imp_iff, implies_true, pe, ge]
      exact ⟨_, _, _, _, _, _, by simp only [List.map_append, List.map_cons, List.map_nil, List.sum_append, List.sum_cons, List.sum_nil, Int.add_zero]; rfl⟩
    · rintro ⟨τ, u⟩ ⟨x3, x4, x5, x6, x7, x8, rfl, rfl⟩
      simp only [fdA, List.map_cons, List.map_nil, List.length_cons, List.length_nil, List.cons_append, List.nil_append, List.replicate_succ, List.replicate_zero, Nat.zero_add, Nat.reduceAdd, Nat.reduceSub, Nat.sub_self, if_true, if_false, Bool.false_eq_true, Bool.not_true, Bool.not_false, reduceCtorEq, ite_true, ite_false, List.getElem?_cons_zero, List.getElem?_cons_succ, List.set_cons_zero, List.set_cons_succ, LEN, Nat.reduceLeDiff, Option.map_some, fvA, List.length_map, List.length_set, decide_true, decide_false, fhA, List.mem_cons, List.not_mem_nil, or_false, or_true, Nat.reduceEqDiff, Nat.succ_ne_self, fxA, fwA, fyA, and_true, true_and, imp_self, true_imp_iff, false_imp_iff, implies_true, ix1, pairD_map]
      refine w_forA (ps'.zip s.groups) (fun z => .tup [.int z.1, grD z.2]) rfl (fun l s1 => ∃ x3 x4 x5 x6 x7 x8, s1.1 = [.v (syD s), .v (tpI ps'), .v (.int ((s.items.zipIdx.map fun z => GC.conj z.1 (priceOf s ps' (z.2 : Nat))).sum + (l.map fun z => z.1 * (if 0 < z.1 then z.2.hi else z.2.lo)).sum)), x3, x4, x5, x6, x7, x8] ∧ s1.2 = u) ⟨_, _, _, _, _, _, by rw [List.map_nil, List.sum_nil, Int.add_zero], rfl⟩ ?_ ?_
      · rintro l z r ⟨τ, u⟩ el ⟨x3, x4, x5, x6, x7, x8, rfl, rfl⟩
        have hz : z ∈ ps'.zip s.groups := by rw [el]; simp
        have h1 := hp z.1 (List.of_mem_zip hz).1
        have h2 := hs.grp z.2 (List.of_mem_zip hz).2
        unfold maxP at h1
        unfold grD
        simp only [fdA, List.map_cons, List.map_nil, List.length_cons, List.length_nil, List.cons_append, List.nil_append, List.replicate_succ, List.replicate_zero, Nat.zero_add, Nat.reduceAdd, Nat.reduceSub, Nat.sub_self, if_true, if_false, Bool.false_eq_true, Bool.not_true, Bool.not_false, reduceCtorEq, ite_true, ite_false, List.getElem?_cons_zero, List.getElem?_cons_succ, List.set_cons_zero, List.set_cons_succ, LEN, Nat.reduceLeDiff, Option.map_some, fvA, List.length_map, List.length_set, decide_true, decide_false, fhA, List.mem_cons, List.not_mem_nil, or_false, or_true, Nat.reduceEqDiff, Nat.succ_ne_self, fxA, fwA, fyA, and_true, true_and, imp_self, true_imp_iff, false_imp_iff, implies_true, decide_eq_true_eq, decide_eq_false_iff_not]
        refine ⟨fun q => ?_, fun q => ?_⟩
        · simp only [fdA, List.map_cons, List.map_nil, List.length_cons, List.length_nil, List.cons_append, List.nil_append, List.replicate_succ, List.replicate_zero, Nat.zero_add, Nat.reduceAdd, Nat.reduceSub, Nat.sub_self, if_true, if_false, Bool.false_eq_true, Bool.not_true, Bool.not_false, reduceCtorEq, ite_true, ite_false, List.getElem?_cons_zero, List.getElem?_cons_succ, List.set_cons_zero, List.set_cons_succ, LEN, Nat.reduceLeDiff, Option.map_some, fvA, List.length_map, List.length_set, decide_true, decide_false, fhA, List.mem_cons, List.not_mem_nil, or_false, or_true, Nat.reduceEqDiff, Nat.succ_ne_self, fxA, fwA, fyA, and_true, true_and, imp_self, true_imp_iff, false_imp_iff, implies_true, v_mul (i := z.1) (j := z.2.hi) (wide _ (by omega)) (wide _ (by omega))]
          exact ⟨_, _, _, _, _, _, by simp only [List.map_append, List.map_cons, List.map_nil, List.sum_append, List.sum_cons, List.sum_nil, Int.add_zero, q, if_true, if_false, Int.add_assoc]; rfl⟩
        · simp only [fdA, List.map_cons, List.map_nil, List.length_cons, List.length_nil, List.cons_append, List.nil_append, List.replicate_succ, List.replicate_zero, Nat.zero_add, Nat.reduceAdd, Nat.reduceSub, Nat.sub_self, if_true, if_false, Bool.false_eq_true, Bool.not_true, Bool.not_false, reduceCtorEq, ite_true, ite_false, List.getElem?_cons_zero, List.getElem?_cons_succ, List.set_cons_zero, List.set_cons_succ, LEN, Nat.reduceLeDiff, Option.map_some, fvA, List.length_map, List.length_set, decide_true, decide_false, fhA, List.mem_cons, List.not_mem_nil, or_false, or_true, Nat.reduceEqDiff, Nat.succ_ne_self, fxA, fwA, fyA, and_true, true_and, imp_self, true_imp_iff, false_imp_iff, implies_true, v_mul (i := z.1) (j := z.2.lo) (wide _ (by omega)) (wide _ (by omega))]
          exact ⟨_, _, _, _, _, _, by simp only [List.map_append, List.map_cons, List.map_nil, List.sum_append, List.sum_cons, List.sum_nil, Int.add_zero, q, if_true, if_false, Int.add_assoc]; rfl⟩
      · rintro ⟨τ, u⟩ ⟨x3, x4, x5, x6, x7, x8, rfl, rfl⟩
        simp only [fdA, List.map_cons, List.map_nil, List.length_cons, List.length_nil, List.cons_append, List.nil_append, List.replicate_succ, List.replicate_zero, Nat.zero_add, Nat.reduceAdd, Nat.reduceSub, Nat.sub_self, if_true, if_false, Bool.false_eq_true, Bool.not_true, Bool.not_false, reduceCtorEq, ite_true, ite_false, List.getElem?_cons_zero, List.getElem?_cons_succ, List.set_cons_zero, List.set_cons_succ, LEN, Nat.reduceLeDiff, Option.map_some, fvA, List.length_map, List.length_set, decide_true, decide_false, fhA, List.mem_cons, List.not_mem_nil, or_false, or_true, Nat.reduceEqDiff, Nat.succ_ne_self, fxA, fwA, fyA, and_true, true_and, imp_self, true_imp_iff, false_imp_iff, implies_true, boundOf]
/-! ### by a law -/
theorem whole_eq {B k : Nat} {v : D} {t : DS} (h : ord B k v = true) : FF_q_whole [v] t = some (.ok (.bl (match v with | .int _ => true | _ => false)) false, t) := by
  unfold FF_q_whole fb_q_whole
  cases v with
  | non => simp only [fdA, List.map_cons, List.map_nil, List.length_cons, List.length_nil, List.cons_append, List.nil_append, List.replicate_succ, List.replicate_zero, Nat.zero_add, Nat.reduceAdd, Nat.reduceSub, Nat.sub_self, if_true, if_false, Bool.false_eq_true, Bool.not_true, Bool.not_false, reduceCtorEq, ite_true, ite_false, List.getElem?_cons_zero, List.getElem?_cons_succ, List.set_cons_zero, List.set_cons_succ, LEN, Nat.reduceLeDiff, Option.map_some, fvA, List.length_map, List.length_set, decide_true, decide_false, fhA, List.mem_cons, List.not_mem_nil, or_false, or_true, Nat.reduceEqDiff, Nat.succ_ne_self, fxA]
  | bl x => simp only [fdA, List.map_cons, List.map_nil, List.length_cons, List.length_nil, List.cons_append, List.nil_append, List.replicate_succ, List.replicate_zero, Nat.zero_add, Nat.reduceAdd, Nat.reduceSub, Nat.sub_self, if_true, if_false, Bool.false_eq_true, Bool.not_true, Bool.not_false, reduceCtorEq, ite_true, ite_false, List.getElem?_cons_zero, List.getElem?_cons_succ, List.set_cons_zero, List.set_cons_succ, LEN, Nat.reduceLeDiff, Option.map_some, fvA, List.length_map, List.length_set, decide_true, decide_false, fhA, List.mem_cons, List.not_mem_nil, or_false, or_true, Nat.reduceEqDiff, Nat.succ_ne_self, fxA]
  | str x => simp only [fdA, List.map_cons, List.map_nil, List.length_cons, List.length_nil, List.cons_append, List.nil_append, List.replicate_succ, List.replicate_zero, Nat.zero_add, Nat.reduceAdd, Nat.reduceSub, Nat.sub_self, if_true, if_false, Bool.false_eq_true, Bool.not_true, Bool.not_false, reduceCtorEq, ite_true, ite_false, List.getElem?_cons_zero, List.getElem?_cons_succ, List.set_cons_zero, List.set_cons_succ, LEN, Nat.reduceLeDiff, Option.map_some, fvA, List.length_map, List.length_set, decide_true, decide_false, fhA, List.mem_cons, List.not_mem_nil, or_false, or_true, Nat.reduceEqDiff, Nat.succ_ne_self, fxA]
  | tup x => simp only [fdA, List.map_cons, List.map_nil, List.length_cons, List.length_nil, List.cons_append, List.nil_append, List.replicate_succ, List.replicate_zero, Nat.zero_add, Nat.reduceAdd, Nat.reduceSub, Nat.sub_self, if_true, if_false, Bool.false_eq_true, Bool.not_true, Bool.not_false, reduceCtorEq, ite_true, ite_false, List.getElem?_cons_zero, List.getElem?_cons_succ, List.set_cons_zero, List.set_cons_succ, LEN, Nat.reduceLeDiff, Option.map_some, fvA, List.length_map, List.length_set, decide_true, decide_false, fhA, List.mem_cons, List.not_mem_nil, or_false, or_true, Nat.reduceEqDiff, Nat.succ_ne_self, fxA]
  | lst x => simp only [fdA, List.map_cons, List.map_nil, List.length_cons, List.length_nil, List.cons_append, List.nil_append, List.replicate_succ, List.replicate_zero, Nat.zero_add, Nat.reduceAdd, Nat.reduceSub, Nat.sub_self, if_true, if_false, Bool.false_eq_true, Bool.not_true, Bool.not_false, reduceCtorEq, ite_true, ite_false, List.getElem?_cons_zero, List.getElem?_cons_succ, List.set_cons_zero, List.set_cons_succ, LEN, Nat.reduceLeDiff, Option.map_some, fvA, List.length_map, List.length_set, decide_true, decide_false, fhA, List.mem_cons, List.not_mem_nil, or_false, or_true, Nat.reduceEqDiff, Nat.succ_ne_self, fxA]
  | dct x => simp only [fdA, List.map_cons, List.map_nil, List.length_cons, List.length_nil, List.cons_append, List.nil_append, List.replicate_succ, List.replicate_zero, Nat.zero_add, Nat.reduceAdd, Nat.reduceSub, Nat.sub_self, if_true, if_false, Bool.false_eq_true, Bool.not_true, Bool.not_false, reduceCtorEq, ite_true, ite_false, List.getElem?_cons_zero, List.getElem?_cons_succ, List.set_cons_zero, List.set_cons_succ, LEN, Nat.reduceLeDiff, Option.map_some, fvA, List.length_map, List.length_set, decide_true, decide_false, fhA, List.mem_cons, List.not_mem_nil, or_false, or_true, Nat.reduceEqDiff, Nat.succ_ne_self, fxA]
  | int i => simp only [fdA, List.map_cons, List.map_nil, List.length_cons, List.length_nil, List.cons_append, List.nil_append, List.replicate_succ, List.replicate_zero, Nat.zero_add, Nat.reduceAdd, Nat.reduceSub, Nat.sub_self, if_true, if_false, Bool.false_eq_true, Bool.not_true, Bool.not_false, reduceCtorEq, ite_true, ite_false, List.getElem?_cons_zero, List.getElem?_cons_succ, List.set_cons_zero, List.set_cons_succ, LEN, Nat.reduceLeDiff, Option.map_some, fvA, List.length_map, List.length_set, decide_true, decide_false, fhA, List.mem_cons, List.not_mem_nil, or_false, or_true, Nat.reduceEqDiff, Nat.succ_ne_self, fxA]
  | obj c fs => simp [ord] at h
  | ty c => simp [ord] at h
  | hnd c => simp [ord] at h
theorem q_item_price_eq {s : Sys} {ps : List Int} {i : Int} {t : DS} (h : s.groups.length ≤ 100) : FF_q_item_price [syD s, tpI ps, .int i] t = some (.ok (.int (priceOf s ps i)) false, t) := by
  have ix : ixD (syD s) (.int 1) = some (.tup (s.groups.map grD), false) := v_ix_t at1
  have zl : (ps.zip s.groups).length ≤ 100 := by
    rw [List.length_zip]
    omega
  refine w_eq ?_
  unfold FF_q_item_price fb_q_item_price
  simp only [tpI] at *
  simp only [fdA, List.map_cons, List.map_nil, List.length_cons, List.length_nil, List.cons_append, List.nil_append, List.replicate_succ, List.replicate_zero, Nat.zero_add, Nat.reduceAdd, Nat.reduceSub, Nat.sub_self, if_true, if_false, Bool.false_eq_true, Bool.not_true, Bool.not_false, reduceCtorEq, ite_true, ite_false, List.getElem?_cons_zero, List.getElem?_cons_succ, List.set_cons_zero, List.set_cons_succ, LEN, Nat.reduceLeDiff, Option.map_some, fvA, List.length_map, List.length_set, decide_true, decide_false, fhA, List.mem_cons, List.not_mem_nil, or_false, or_true, Nat.reduceEqDiff, Nat.succ_ne_self, fxA, fwA, fyA, and_true, true_and, imp_self, true_imp_iff, false_imp_iff, implies_true, ix, pairD_map]
  refine ⟨by omega, w_fm (ps.zip s.groups) (fun z => .tup [.int z.1, grD z.2]) rfl (fun z => decide (i ∈ z.2.ms)) (fun z => .int z.1) (fun z _ => ?_) ?_⟩
  · have e : ixD (grD z.2) (.int 0) = some (tpI z.2.ms, false) := v_ix_t at0
    simp only [fdA, List.map_cons, List.map_nil, List.length_cons, List.length_nil, List.cons_append, List.nil_append, List.replicate_succ, List.replicate_zero, Nat.zero_add, Nat.reduceAdd, Nat.reduceSub, Nat.sub_self, if_true, if_false, Bool.false_eq_true, Bool.not_true, Bool.not_false, reduceCtorEq, ite_true, ite_false, List.getElem?_cons_zero, List.getElem?_cons_succ, List.set_cons_zero, List.set_cons_succ, LEN, Nat.reduceLeDiff, Option.map_some, fvA, List.length_map, List.length_set, decide_true, decide_false, fhA, List.mem_cons, List.not_mem_nil, or_false, or_true, Nat.reduceEqDiff, Nat.succ_ne_self, fxA, fwA, fyA, and_true, true_and, imp_self, true_imp_iff, false_imp_iff, implies_true, e, v_in_tp]
  · simp only [fdA, List.map_cons, List.map_nil, List.length_cons, List.length_nil, List.cons_append, List.nil_append, List.replicate_succ, List.replicate_zero, Nat.zero_add, Nat.reduceAdd, Nat.reduceSub, Nat.sub_self, if_true, if_false, Bool.false_eq_true, Bool.not_true, Bool.not_false, reduceCtorEq, ite_true, ite_false, List.getElem?_cons_zero, List.getElem?_cons_succ, List.set_cons_zero, List.set_cons_succ, LEN, Nat.reduceLeDiff, Option.map_some, fvA, List.length_map, List.length_set, decide_true, decide_false, fhA, List.mem_cons, List.not_mem_nil, or_false, or_true, Nat.reduceEqDiff, Nat.succ_ne_self, fxA, fwA, fyA, and_true, true_and, imp_self, true_imp_iff, false_imp_iff, implies_true, v_sumM, priceOf]
def runV (p : Int) : Int → Int → GC.Gs → List Int
  | _, _, [] => []
  | u, x, (c, a) :: r => (x + c * a - p * (u + c)) :: runV p (u + c) (x + c * a) r
theorem runV_max (p : Int) : ∀ (g : GC.Gs) (u x : Int), GC.Falls g → maxL ((x - p * u) :: runV p u x g) = x - p * u + GC.conj g p
  | [], u, x, _ => by simp [runV, maxL, GC.conj]
  | (c, a) :: r, u, x, ⟨h1, h2, h3⟩ => by
    have ih := runV_max p r (u + c) (x + c * a) h3
    have n := GC.conj_nonneg h3 p
    simp only [runV, maxL, GC.conj]
    rw [ih]
    have e : x + c * a - p * (u + c) = x - p * u + c * (a - p) := by rw [Int.mul_add, Int.mul_sub, Int.mul_comm c p]; omega
    rw [e]
    split
    · have := Int.mul_nonneg (a := c) (b := a - p) (by omega) (by omega)
      omega
    · have z := GC.conj_zero (g := r) (p := p) fun y m => by have := h2 y m; omega
      have := Int.mul_nonneg (a := c) (b := p - a) (by omega) (by omega)
      have e3 : c * (a - p) = - (c * (p - a)) := by rw [← Int.mul_neg]; congr 1; omega
      omega
theorem runV_app (p : Int) : ∀ (g : GC.Gs) (u x : Int) (c a : Int), runV p u x (g ++ [(c, a)]) = runV p u x g ++ [x + (g.map fun s => s.1 * s.2).sum + c * a - p * (u + GC.cap g + c)]
  | [], u, x, c, a => by simp [runV, GC.cap]
  | (d, b) :: r, u, x, c, a => by
    simp only [List.cons_append, runV, runV_app p r (u + d) (x + d * b) c a, List.map_cons, List.sum_cons, GC.cap]
    congr 5 <;> omega
theorem v_maxL {a : Int} {as : List Int} : maxD [.lst ((a :: as).map D.int)] = some (.int (maxL (a :: as)), false) := by
  simp only [maxD, maxLD, intsD_map]
theorem cap_pos' : ∀ {g : GC.Gs}, (∀ x ∈ g, 0 ≤ x.1) → 0 ≤ GC.cap g
  | [], _ => Int.le_refl 0
  | (c, a) :: r, h => by
    have := cap_pos' (g := r) fun x m => h x (List.mem_cons_of_mem _ m)
    have := h (c, a) (List.mem_cons_self ..)
    simp only [GC.cap]
    dsimp only at this
    omega
theorem prodsum_le : ∀ {g : GC.Gs}, (∀ x ∈ g, 0 ≤ x.1 ∧ x.1 ≤ 1000000000000 ∧ -1000000 ≤ x.2 ∧ x.2 ≤ 1000000) → -(1000000000000000000 * (g.length : Int)) ≤ (g.map fun s => s.1 * s.2).sum ∧ (g.map fun s => s.1 * s.2).sum ≤ 1000000000000000000 * (g.length : Int)
  | [], _ => by simp
  | (c, a) :: r, h => by
    have h1 := h (c, a) (List.mem_cons_self ..)
    dsimp only at h1
    have h2 := prodsum_le (g := r) fun x m => h x (List.mem_cons_of_mem _ m)
    have a1 := Int.mul_le_mul (a := c) (b := a) (c := 1000000000000) (d := 1000000) h1.2.1 h1.2.2.2 
    have b1 : c * a ≤ 1000000000000000000 := by
      by_cases q : 0 ≤ a
      · have := Int.mul_le_mul h1.2.1 h1.2.2.2 q (by omega)
        omega
      · have := Int.mul_nonneg (a := c) (b := -a) h1.1 (by omega)
        rw [Int.mul_neg] at this
        omega
    have b2 : -1000000000000000000 ≤ c * a := by
      by_cases q : 0 ≤ a
      · have := Int.mul_nonneg h1.1 q
        omega
      · have := Int.mul_le_mul (a := c) (b := -a) (c := 1000000000000) (d := 1000000) h1.2.1 (by omega) (by omega) (by omega)
        rw [Int.mul_neg] at this
        omega
    simp only [List.map_cons, List.sum_cons, List.length_cons, Int.natCast_add]
    omega
theorem item_value_eq {g : GC.Gs} {p : Int} {t : DS} (hf : GC.Falls g) (h : g.length ≤ 100) (hp : -(10 ^ 50) ≤ p ∧ p ≤ 10 ^ 50) (hcap : GC.cap g ≤ 1000000000000) (hg : ∀ x ∈ g, 0 ≤ x.1 ∧ x.1 ≤ 1000000000000 ∧ -1000000 ≤ x.2 ∧ x.2 ≤ 1000000) :
    FF_q_item_value [gD g, .int p] t = some (.ok (.int (GC.conj g p)) false, t) := by
  refine w_eq ?_
  unfold FF_q_item_value fb_q_item_value gD
  simp only [fdA, List.map_cons, List.map_nil, List.length_cons, List.length_nil, List.cons_append, List.nil_append, List.replicate_succ, List.replicate_zero, Nat.zero_add, Nat.reduceAdd, Nat.reduceSub, Nat.sub_self, if_true, if_false, Bool.false_eq_true, Bool.not_true, Bool.not_false, reduceCtorEq, ite_true, ite_false, List.getElem?_cons_zero, List.getElem?_cons_succ, List.set_cons_zero, List.set_cons_succ, LEN, Nat.reduceLeDiff, Option.map_some, fvA, List.length_map, List.length_set, decide_true, decide_false, fhA, List.mem_cons, List.not_mem_nil, or_false, or_true, Nat.reduceEqDiff, Nat.succ_ne_self, fxA, fwA, fyA, and_true, true_and, imp_self, true_imp_iff, false_imp_iff, implies_true]
  refine w_forA g stD rfl (fun l s => ∃ x5 x6, s.1 = [.v (gD g), .v (.int p), .o (.lst (((0 : Int) :: runV p 0 0 l).map D.int)), .v (.int (GC.cap l)), .v (.int (l.map fun s => s.1 * s.2).sum), x5, x6] ∧ s.2 = t) ⟨_, _, rfl, rfl⟩ ?_ ?_
  · rintro l ⟨c, a⟩ r ⟨τ, u⟩ el ⟨x5, x6, rfl, rfl⟩
    have hx := hg (c, a) (by rw [el]; simp)
    have hl : l.length ≤ 100 := by rw [el] at h; simp at h; omega
    have hc : GC.cap g = GC.cap l + (c + GC.cap r) := by rw [el, GC.cap_app]; rfl
    have cr : 0 ≤ GC.cap r := cap_pos' (fun x m => (hg x (by rw [el]; simp [m])).1)
    have cl : 0 ≤ GC.cap l := cap_pos' (fun x m => (hg x (by rw [el]; simp [m])).1)
    have pl := prodsum_le (g := l) (fun x m => hg x (by rw [el]; simp [m]))
    unfold stD
    dsimp only at hx
    have m1 := v_mul (i := c) (j := a) (wide _ (by omega)) (wide _ (by omega))
    have m2 := v_mul (i := p) (j := GC.cap l + c) (wide _ (by omega)) (wide _ (by omega))
    have rl : ∀ (l : GC.Gs) (u x : Int), (runV p u x l).length = l.length := by
      intro l
      induction l with
      | nil => intros; rfl
      | cons y r ih => obtain ⟨d, b⟩ := y; intros; simp [runV, ih]
    have va : appD (D.int 0 :: (runV p 0 0 l).map D.int) [.int ((l.map fun s => s.1 * s.2).sum + c * a - p * (GC.cap l + c))] = some (D.int 0 :: ((runV p 0 0 l).map D.int ++ [.int ((l.map fun s => s.1 * s.2).sum + c * a - p * (GC.cap l + c))]), .non) := v_app (by simp [LEN, rl]; omega)
    simp only [fdA, List.map_cons, List.map_nil, List.length_cons, List.length_nil, List.cons_append, List.nil_append, List.replicate_succ, List.replicate_zero, Nat.zero_add, Nat.reduceAdd, Nat.reduceSub, Nat.sub_self, if_true, if_false, Bool.false_eq_true, Bool.not_true, Bool.not_false, reduceCtorEq, ite_true, ite_false, List.getElem?_cons_zero, List.getElem?_cons_succ, List.set_cons_zero, List.set_cons_succ, LEN, Nat.reduceLeDiff, Option.map_some, fvA, List.length_map, List.length_set, decide_true, decide_false, fhA, List.mem_cons, List.not_mem_nil, or_false, or_true, Nat.reduceEqDiff, Nat.succ_ne_self, fxA, fwA, fyA, and_true, true_and, imp_self, true_imp_iff, false_imp_iff, implies_true, m1, m2, va]
    have e1 := runV_app p l 0 0 c a
    simp only [Int.zero_add] at e1
    refine ⟨.v (.int c), .v (.int a), ?_⟩
    simp only [e1, GC.cap_app, List.map_append, List.sum_append, GC.cap, List.map_cons, List.map_nil, List.sum_cons, List.sum_nil, Int.add_zero]
  · rintro ⟨τ, u⟩ ⟨x5, x6, rfl, rfl⟩
    have := runV_max p g 0 0 hf
    simp only [Int.mul_zero, Int.sub_zero, Int.zero_add, Int.sub_self] at this
    have vm := v_maxL (a := 0) (as := runV p 0 0 g)
    rw [this, List.map_cons] at vm
    simp only [fdA, List.map_cons, List.map_nil, List.length_cons, List.length_nil, List.cons_append, List.nil_append, List.replicate_succ, List.replicate_zero, Nat.zero_add, Nat.reduceAdd, Nat.reduceSub, Nat.sub_self, if_true, if_false, Bool.false_eq_true, Bool.not_true, Bool.not_false, reduceCtorEq, ite_true, ite_false, List.getElem?_cons_zero, List.getElem?_cons_succ, List.set_cons_zero, List.set_cons_succ, LEN, Nat.reduceLeDiff, Option.map_some, fvA, List.length_map, List.length_set, decide_true, decide_false, fhA, List.mem_cons, List.not_mem_nil, or_false, or_true, Nat.reduceEqDiff, Nat.succ_ne_self, fxA, fwA, fyA, and_true, true_and, imp_self, true_imp_iff, false_imp_iff, implies_true, vm]
/-- the law's bound -/
theorem max_mul {p lo hi : Int} (h : lo ≤ hi) : max (p * lo) (p * hi) = p * (if 0 < p then hi else lo) := by
  by_cases q : 0 < p
  · rw [if_pos q]
    have := Int.mul_nonneg (a := p) (b := hi - lo) (by omega) (by omega)
    rw [Int.mul_sub] at this
    omega
  · rw [if_neg q]
    have := Int.mul_nonneg (a := -p) (b := hi - lo) (by omega) (by omega)
    rw [Int.mul_sub, Int.neg_mul, Int.neg_mul] at this
    omega
theorem v_pow30 : powD (.int 10) (.int 30) = some (.int 1000000000000000000000000000000, false) := by
  unfold powD
  exact if_pos (by decide)
theorem v_pow6 : powD (.int 10) (.int 6) = some (.int 1000000, false) := by
  unfold powD
  exact if_pos (by decide)
theorem filter_nil {A : Type} {p : A → Bool} {as : List A} : (as.filter p).isEmpty = as.all fun a => !p a := by
  induction as with
  | nil => rfl
  | cons a r ih =>
    cases h : p a with
    | true => rw [List.filter_cons_of_pos h]; simp [h]
    | false => rw [List.filter_cons_of_neg (by simp [h])]; simp [h, ih]
theorem q_price_bound_eq {B k : Nat} {s : Sys} {v : D} {t : DS} (hs : Valid s) (h : ord B k v = true) (hb : blk v ≤ 100000) :
    (pricesB s.groups.length v = false → FF_q_price_bound [syD s, v] t = some (.ok .non false, t)) ∧ (∀ ps, v = tpI ps → pricesB s.groups.length v = true → FF_q_price_bound [syD s, v] t = some (.ok (.int (boundOf s ps)) false, t)) := by
  have ix0 : ixD (syD s) (.int 0) = some (.tup (s.items.map gD), false) := v_ix_t at0
  have ix1 : ixD (syD s) (.int 1) = some (.tup (s.groups.map grD), false) := v_ix_t at1
  have hm := hs.many
  have hi := hs.n2
  -- the values that are no prices
  have bad : ∀ (ds : List D), v = .tup ds → ds.length = s.groups.length → (∀ Q : List D → DS → Prop, Q (ds.filter fun d => !btwD d (-maxP) maxP) t → wL (lcL (nameG 2) (orF (notF (ucallF FF_q_whole (consA (varF 2) nilA))) (notF (chainF ltD ltD (unF negD (binF powD (conF (.int 10)) (conF (.int 30)))) (varF 2) (binF powD (conF (.int 10)) (conF (.int 30)))))) (varF 2) [.v (syD s), .v v, .no, .no, .no, .no, .no] ds t) Q) := fun ds ev hl Q hQ => by
    subst ev
    obtain ⟨k', rfl⟩ : ∃ k', k = k' + 1 := by
      cases k with
      | zero => simp [ord] at h
      | succ k' => exact ⟨k', rfl⟩
    unfold ord at h
    refine w_fm ds (fun d => d) (by simp) (fun d => !btwD d (-maxP) maxP) (fun d => d) (fun d hd => ?_) (by simpa using hQ)
    have wh := whole_eq (t := t) (ordA_iff.mp h d hd)
    cases d with
    | int i =>
      simp only [fdA, List.map_cons, List.map_nil, List.length_cons, List.length_nil, List.cons_append, List.nil_append, List.replicate_succ, List.replicate_zero, Nat.zero_add, Nat.reduceAdd, Nat.reduceSub, Nat.sub_self, if_true, if_false, Bool.false_eq_true, Bool.not_true, Bool.not_false, reduceCtorEq, ite_true, ite_false, List.getElem?_cons_zero, List.getElem?_cons_succ, List.set_cons_zero, List.set_cons_succ, LEN, Nat.reduceLeDiff, Option.map_some, fvA, List.length_map, List.length_set, decide_true, decide_false, fhA, List.mem_cons, List.not_mem_nil, or_false, or_true, Nat.reduceEqDiff, Nat.succ_ne_self, fxA, fwA, fyA, and_true, true_and, imp_self, true_imp_iff, false_imp_iff, implies_true, wh, v_pow30, v_neg, btwD, decide_eq_true_eq, decide_eq_false_iff_not]
      refine ⟨fun q => ⟨fun r => ?_, fun r => ?_⟩, fun q => ?_⟩
      · rw [decide_eq_true (p := -maxP ≤ i) (by unfold maxP; omega), decide_eq_true (p := i ≤ maxP) (by unfold maxP; omega)]
        rfl
      · rw [decide_eq_false (p := i ≤ maxP) (by unfold maxP; omega), Bool.and_false]
        rfl
      · rw [decide_eq_false (p := -maxP ≤ i) (by unfold maxP; omega), Bool.false_and]
        rfl
    | _ => simp only [fdA, List.map_cons, List.map_nil, List.length_cons, List.length_nil, List.cons_append, List.nil_append, List.replicate_succ, List.replicate_zero, Nat.zero_add, Nat.reduceAdd, Nat.reduceSub, Nat.sub_self, if_true, if_false, Bool.false_eq_true, Bool.not_true, Bool.not_false, reduceCtorEq, ite_true, ite_false, List.getElem?_cons_zero, List.getElem?_cons_succ, List.set_cons_zero, List.set_cons_succ, LEN, Nat.reduceLeDiff, Option.map_some, fvA, List.length_map, List.length_set, decide_true, decide_false, fhA, List.mem_cons, List.not_mem_nil, or_false, or_true, Nat.reduceEqDiff, Nat.succ_ne_self, fxA, fwA, fyA, and_true, true_and, imp_self, true_imp_iff, false_imp_iff, implies_true, wh, btwD]
  refine ⟨fun e => ?_, fun ps ev e => ?_⟩
  · refine w_eq ?_
    unfold FF_q_price_bound fb_q_price_bound
    cases v with
    | tup ds =>
      by_cases hl : ds.length = s.groups.length
      · have hl' := blkA_len (a := ds)
        simp only [blk] at hb
        simp only [pricesB, hl, decide_true, Bool.true_and] at e
        have ne : (ds.filter fun d => !btwD d (-maxP) maxP).isEmpty = false := by
          rw [filter_nil]
          simpa using e
        simp only [fdA, List.map_cons, List.map_nil, List.length_cons, List.length_nil, List.cons_append, List.nil_append, List.replicate_succ, List.replicate_zero, Nat.zero_add, Nat.reduceAdd, Nat.reduceSub, Nat.sub_self, if_true, if_false, Bool.false_eq_true, Bool.not_true, Bool.not_false, reduceCtorEq, ite_true, ite_false, List.getElem?_cons_zero, List.getElem?_cons_succ, List.set_cons_zero, List.set_cons_succ, LEN, Nat.reduceLeDiff, Option.map_some, fvA, List.length_map, List.length_set, decide_true, decide_false, fhA, List.mem_cons, List.not_mem_nil, or_false, or_true, Nat.reduceEqDiff, Nat.succ_ne_self, fxA, fwA, fyA, and_true, true_and, imp_self, true_imp_iff, false_imp_iff, implies_true, ix1, hl]
        refine ⟨by omega, bad ds rfl hl _ ?_⟩
        simp only [fdA, List.map_cons, List.map_nil, List.length_cons, List.length_nil, List.cons_append, List.nil_append, List.replicate_succ, List.replicate_zero, Nat.zero_add, Nat.reduceAdd, Nat.reduceSub, Nat.sub_self, if_true, if_false, Bool.false_eq_true, Bool.not_true, Bool.not_false, reduceCtorEq, ite_true, ite_false, List.getElem?_cons_zero, List.getElem?_cons_succ, List.set_cons_zero, List.set_cons_succ, LEN, Nat.reduceLeDiff, Option.map_some, fvA, List.length_map, List.length_set, decide_true, decide_false, fhA, List.mem_cons, List.not_mem_nil, or_false, or_true, Nat.reduceEqDiff, Nat.succ_ne_self, fxA, fwA, fyA, and_true, true_and, imp_self, true_imp_iff, false_imp_iff, implies_true, ne_nilL, ne]
      · have : ¬ (ds.length : Int) = s.groups.length := by omega
        simp only [fdA, List.map_cons, List.map_nil, List.length_cons, List.length_nil, List.cons_append, List.nil_append, List.replicate_succ, List.replicate_zero, Nat.zero_add, Nat.reduceAdd, Nat.reduceSub, Nat.sub_self, if_true, if_false, Bool.false_eq_true, Bool.not_true, Bool.not_false, reduceCtorEq, ite_true, ite_false, List.getElem?_cons_zero, List.getElem?_cons_succ, List.set_cons_zero, List.set_cons_succ, LEN, Nat.reduceLeDiff, Option.map_some, fvA, List.length_map, List.length_set, decide_true, decide_false, fhA, List.mem_cons, List.not_mem_nil, or_false, or_true, Nat.reduceEqDiff, Nat.succ_ne_self, fxA, fwA, fyA, and_true, true_and, imp_self, true_imp_iff, false_imp_iff, implies_true, ix1, this]
    | non => simp only [fdA, List.map_cons, List.map_nil, List.length_cons, List.length_nil, List.cons_append, List.nil_append, List.replicate_succ, List.replicate_zero, Nat.zero_add, Nat.reduceAdd, Nat.reduceSub, Nat.sub_self, if_true, if_false, Bool.false_eq_true, Bool.not_true, Bool.not_false, reduceCtorEq, ite_true, ite_false, List.getElem?_cons_zero, List.getElem?_cons_succ, List.set_cons_zero, List.set_cons_succ, LEN, Nat.reduceLeDiff, Option.map_some, fvA, List.length_map, List.length_set, decide_true, decide_false, fhA, List.mem_cons, List.not_mem_nil, or_false, or_true, Nat.reduceEqDiff, Nat.succ_ne_self, fxA, fwA, fyA, and_true, true_and, imp_self, true_imp_iff, false_imp_iff, implies_true, ix1]
    | bl x => simp only [fdA, List.map_cons, List.map_nil, List.length_cons, List.length_nil, List.cons_append, List.nil_append, List.replicate_succ, List.replicate_zero, Nat.zero_add, Nat.reduceAdd, Nat.reduceSub, Nat.sub_self, if_true, if_false, Bool.false_eq_true, Bool.not_true, Bool.not_false, reduceCtorEq, ite_true, ite_false, List.getElem?_cons_zero, List.getElem?_cons_succ, List.set_cons_zero, List.set_cons_succ, LEN, Nat.reduceLeDiff, Option.map_some, fvA, List.length_map, List.length_set, decide_true, decide_false, fhA, List.mem_cons, List.not_mem_nil, or_false, or_true, Nat.reduceEqDiff, Nat.succ_ne_self, fxA, fwA, fyA, and_true, true_and, imp_self, true_imp_iff, false_imp_iff, implies_true, ix1]
    | str x => simp only [fdA, List.map_cons, List.map_nil, List.length_cons, List.length_nil, List.cons_append, List.nil_append, List.replicate_succ, List.replicate_zero, Nat.zero_add, Nat.reduceAdd, Nat.reduceSub, Nat.sub_self, if_true, if_false, Bool.false_eq_true, Bool.not_true, Bool.not_false, reduceCtorEq, ite_true, ite_false, List.getElem?_cons_zero, List.getElem?_cons_succ, List.set_cons_zero, List.set_cons_succ, LEN, Nat.reduceLeDiff, Option.map_some, fvA, List.length_map, List.length_set, decide_true, decide_false, fhA, List.mem_cons, List.not_mem_nil, or_false, or_true, Nat.reduceEqDiff, Nat.succ_ne_self, fxA, fwA, fyA, and_true, true_and, imp_self, true_imp_iff, false_imp_iff, implies_true, ix1]
    | lst x => simp only [fdA, List.map_cons, List.map_nil, List.length_cons, List.length_nil, List.cons_append, List.nil_append, List.replicate_succ, List.replicate_zero, Nat.zero_add, Nat.reduceAdd, Nat.reduceSub, Nat.sub_self, if_true, if_false, Bool.false_eq_true, Bool.not_true, Bool.not_false, reduceCtorEq, ite_true, ite_false, List.getElem?_cons_zero, List.getElem?_cons_succ, List.set_cons_zero, List.set_cons_succ, LEN, Nat.reduceLeDiff, Option.map_some, fvA, List.length_map, List.length_set, decide_true, decide_false, fhA, List.mem_cons, List.not_mem_nil, or_false, or_true, Nat.reduceEqDiff, Nat.succ_ne_self, fxA, fwA, fyA, and_true, true_and, imp_self, true_imp_iff, false_imp_iff, implies_true, ix1]
    | dct x => simp only [fdA, List.map_cons, List.map_nil, List.length_cons, List.length_nil, List.cons_append, List.nil_append, List.replicate_succ, List.replicate_zero, Nat.zero_add, Nat.reduceAdd, Nat.reduceSub, Nat.sub_self, if_true, if_false, Bool.false_eq_true, Bool.not_true, Bool.not_false, reduceCtorEq, ite_true, ite_false, List.getElem?_cons_zero, List.getElem?_cons_succ, List.set_cons_zero, List.set_cons_succ, LEN, Nat.reduceLeDiff, Option.map_some, fvA, List.length_map, List.length_set, decide_true, decide_false, fhA, List.mem_cons, List.not_mem_nil, or_false, or_true, Nat.reduceEqDiff, Nat.succ_ne_self, fxA, fwA, fyA, and_true, true_and, imp_self, true_imp_iff, false_imp_iff, implies_true, ix1]
    | int i => simp only [fdA, List.map_cons, List.map_nil, List.length_cons, List.length_nil, List.cons_append, List.nil_append, List.replicate_succ, List.replicate_zero, Nat.zero_add, Nat.reduceAdd, Nat.reduceSub, Nat.sub_self, if_true, if_false, Bool.false_eq_true, Bool.not_true, Bool.not_false, reduceCtorEq, ite_true, ite_false, List.getElem?_cons_zero, List.getElem?_cons_succ, List.set_cons_zero, List.set_cons_succ, LEN, Nat.reduceLeDiff, Option.map_some, fvA, List.length_map, List.length_set, decide_true, decide_false, fhA, List.mem_cons, List.not_mem_nil, or_false, or_true, Nat.reduceEqDiff, Nat.succ_ne_self, fxA, fwA, fyA, and_true, true_and, imp_self, true_imp_iff, false_imp_iff, implies_true, ix1]
    | obj c fs => simp [ord] at h
    | ty c => simp [ord] at h
    | hnd c => simp [ord] at h
  · obtain ⟨ps', ev', hl, hp⟩ := prices_int e
    have : ps' = ps := by
      rw [ev] at ev'
      simp only [tpI, D.tup.injEq] at ev'
      exact (List.map_inj_right (fun a b h => by cases h; rfl)).mp ev'.symm
    subst this
    subst ev
    have em : ((ps'.map D.int).filter fun d => !btwD d (-maxP) maxP).isEmpty = true := by
      rw [filter_nil]
      simp only [tpI, pricesB, Bool.and_eq_true] at e
      simpa using e.2
    refine w_eq ?_
    unfold FF_q_price_bound fb_q_price_bound
    simp only [tpI] at *
    have en : enumD [.tup (s.items.map gD)] = some (enumL 0 (s.items.map gD)) := rfl
    simp only [fdA, List.map_cons, List.map_nil, List.length_cons, List.length_nil, List.cons_append, List.nil_append, List.replicate_succ, List.replicate_zero, Nat.zero_add, Nat.reduceAdd, Nat.reduceSub, Nat.sub_self, if_true, if_false, Bool.false_eq_true, Bool.not_true, Bool.not_false, reduceCtorEq, ite_true, ite_false, List.getElem?_cons_zero, List.getElem?_cons_succ, List.set_cons_zero, List.set_cons_succ, LEN, Nat.reduceLeDiff, Option.map_some, fvA, List.length_map, List.length_set, decide_true, decide_false, fhA, List.mem_cons, List.not_mem_nil, or_false, or_true, Nat.reduceEqDiff, Nat.succ_ne_self, fxA, fwA, fyA, and_true, true_and, imp_self, true_imp_iff, false_imp_iff, implies_true, ix1, hl]
    refine ⟨by first | omega | (simp; omega), bad (ps'.map D.int) rfl (by simpa using hl) _ ?_⟩
    simp only [fdA, List.map_cons, List.map_nil, List.length_cons, List.length_nil, List.cons_append, List.nil_append, List.replicate_succ, List.replicate_zero, Nat.zero_add, Nat.reduceAdd, Nat.reduceSub, Nat.sub_self, if_true, if_false, Bool.false_eq_true, Bool.not_true, Bool.not_false, reduceCtorEq, ite_true, ite_false, List.getElem?_cons_zero, List.getElem?_cons_succ, List.set_cons_zero, List.set_cons_succ, LEN, Nat.reduceLeDiff, Option.map_some, fvA, List.length_map, List.length_set, decide_true, decide_false, fhA, List.mem_cons, List.not_mem_nil, or_false, or_true, Nat.reduceEqDiff, Nat.succ_ne_self, fxA, fwA, fyA, and_true, true_and, imp_self, true_imp_iff, false_imp_iff, implies_true, ne_nilL, em, ix0, en]
    refine w_forA s.items.zipIdx (fun z => .tup [.int (z.2 : Nat), gD z.1]) (enumL_map gD s.items 0) (fun l s1 => ∃ x4 x5 x6, s1.1 = [.v (syD s), .v (tpI ps'), .no, .v (.int (l.map fun z => GC.conj z.1 (priceOf s ps' (z.2 : Nat))).sum), x4, x5, x6] ∧ s1.2 = t) ⟨_, _, _, rfl, rfl⟩ ?_ ?_
    · rintro l z r ⟨τ, u⟩ el ⟨x4, x5, x6, rfl, rfl⟩
      have hz : z ∈ s.items.zipIdx := by rw [el]; simp
      have hzm := hs.gains z.1 (List.fst_mem_of_mem_zipIdx hz)
      have pe := q_item_price_eq (s := s) (ps := ps') (i := (z.2 : Nat)) (t := u) (by omega)
      have pl := priceOf_le (s := s) (ps := ps') (i := (z.2 : Nat)) hs.many hp
      have cs : ∀ x ∈ z.1, 0 ≤ x.1 ∧ x.1 ≤ 1000000000000 ∧ -1000000 ≤ x.2 ∧ x.2 ≤ 1000000 := fun x hx => by
        have a := count_le hzm.1 hx
        have b := hzm.2.2.1
        have c := hzm.2.2.2 x hx
        omega
      have ge := item_value_eq (g := z.1) (p := priceOf s ps' (z.2 : Nat)) (t := u) hzm.1 (by omega) (by omega) hzm.2.2.1 cs
      simp only [fdA, List.map_cons, List.map_nil, List.length_cons, List.length_nil, List.cons_append, List.nil_append, List.replicate_succ, List.replicate_zero, Nat.zero_add, Nat.reduceAdd, Nat.reduceSub, Nat.sub_self, if_true, if_false, Bool.false_eq_true, Bool.not_true, Bool.not_false, reduceCtorEq, ite_true, ite_false, List.getElem?_cons_zero, List.getElem?_cons_succ, List.set_cons_zero, List.set_cons_succ, LEN, Nat.reduceLeDiff, Option.map_some, fvA, List.length_map, List.length_set, decide_true, decide_false, fhA, List.mem_cons, List.not_mem_nil, or_false, or_true, Nat.reduceEqDiff, Nat.succ_ne_self, fxA, fwA, fyA, and_true, true_and, imp_self, true_imp_iff, false_imp_iff, implies_true, pe, ge]
      exact ⟨_, _, _, by simp only [List.map_append, List.map_cons, List.map_nil, List.sum_append, List.sum_cons, List.sum_nil, Int.add_zero]; rfl⟩
    · rintro ⟨τ, u⟩ ⟨x4, x5, x6, rfl, rfl⟩
      simp only [fdA, List.map_cons, List.map_nil, List.length_cons, List.length_nil, List.cons_append, List.nil_append, List.replicate_succ, List.replicate_zero, Nat.zero_add, Nat.reduceAdd, Nat.reduceSub, Nat.sub_self, if_true, if_false, Bool.false_eq_true, Bool.not_true, Bool.not_false, reduceCtorEq, ite_true, ite_false, List.getElem?_cons_zero, List.getElem?_cons_succ, List.set_cons_zero, List.set_cons_succ, LEN, Nat.reduceLeDiff, Option.map_some, fvA, List.length_map, List.length_set, decide_true, decide_false, fhA, List.mem_cons, List.not_mem_nil, or_false, or_true, Nat.reduceEqDiff, Nat.succ_ne_self, fxA, fwA, fyA, and_true, true_and, imp_self, true_imp_iff, false_imp_iff, implies_true, ix1, pairD_map]
      refine w_forA (ps'.zip s.groups) (fun z => .tup [.int z.1, grD z.2]) rfl (fun l s1 => ∃ x2 x4 x5 x6, s1.1 = [.v (syD s), .v (tpI ps'), x2, .v (.int ((s.items.zipIdx.map fun z => GC.conj z.1 (priceOf s ps' (z.2 : Nat))).sum + (l.map fun z => z.1 * (if 0 < z.1 then z.2.hi else z.2.lo)).sum)), x4, x5, x6] ∧ s1.2 = u) ⟨_, _, _, _, by rw [List.map_nil, List.sum_nil, Int.add_zero], rfl⟩ ?_ ?_
      · rintro l z r ⟨τ, u⟩ el ⟨x2, x4, x5, x6, rfl, rfl⟩
        have hz : z ∈ ps'.zip s.groups := by rw [el]; simp
        have h1 := hp z.1 (List.of_mem_zip hz).1
        have h2 := hs.grp z.2 (List.of_mem_zip hz).2
        unfold maxP at h1
        have i1 : ixD (grD z.2) (.int 1) = some (.int z.2.lo, false) := v_ix_t at1
        have i2 : ixD (grD z.2) (.int 2) = some (.int z.2.hi, false) := v_ix_t at2
        simp only [fdA, List.map_cons, List.map_nil, List.length_cons, List.length_nil, List.cons_append, List.nil_append, List.replicate_succ, List.replicate_zero, Nat.zero_add, Nat.reduceAdd, Nat.reduceSub, Nat.sub_self, if_true, if_false, Bool.false_eq_true, Bool.not_true, Bool.not_false, reduceCtorEq, ite_true, ite_false, List.getElem?_cons_zero, List.getElem?_cons_succ, List.set_cons_zero, List.set_cons_succ, LEN, Nat.reduceLeDiff, Option.map_some, fvA, List.length_map, List.length_set, decide_true, decide_false, fhA, List.mem_cons, List.not_mem_nil, or_false, or_true, Nat.reduceEqDiff, Nat.succ_ne_self, fxA, fwA, fyA, and_true, true_and, imp_self, true_imp_iff, false_imp_iff, implies_true, i1, i2, v_mul (i := z.1) (j := z.2.hi) (wide _ (by omega)) (wide _ (by omega)), v_mul (i := z.1) (j := z.2.lo) (wide _ (by omega)) (wide _ (by omega)), v_max2, max_mul (p := z.1) h2.2.2.2.2.1]
        exact ⟨_, _, _, _, by simp only [List.map_append, List.map_cons, List.map_nil, List.sum_append, List.sum_cons, List.sum_nil, Int.add_zero, Int.add_assoc]; rfl⟩
      · rintro ⟨τ, u⟩ ⟨x2, x4, x5, x6, rfl, rfl⟩
        simp only [fdA, List.map_cons, List.map_nil, List.length_cons, List.length_nil, List.cons_append, List.nil_append, List.replicate_succ, List.replicate_zero, Nat.zero_add, Nat.reduceAdd, Nat.reduceSub, Nat.sub_self, if_true, if_false, Bool.false_eq_true, Bool.not_true, Bool.not_false, reduceCtorEq, ite_true, ite_false, List.getElem?_cons_zero, List.getElem?_cons_succ, List.set_cons_zero, List.set_cons_succ, LEN, Nat.reduceLeDiff, Option.map_some, fvA, List.length_map, List.length_set, decide_true, decide_false, fhA, List.mem_cons, List.not_mem_nil, or_false, or_true, Nat.reduceEqDiff, Nat.succ_ne_self, fxA, fwA, fyA, and_true, true_and, imp_self, true_imp_iff, false_imp_iff, implies_true, boundOf]
end FD

namespace FD
open PySem PySem.Spec PyProof.Rows L2
-- _law_values: slots [(0, '_law_deck_here'), (1, '_law_count'), (2, '_law_small'), (3, '_law_great_here'), (4, '_law_some'), (5, '_law_once'), (6, '_law_k')]
noncomputable def fb_q_values : SF DS := (seqF (setF 2 (callF tupleD (consA (lcF [0] [6] (callI rng1D (consA (varF 1) nilA)) (nameG 6) yesF (binF subD (ucallF FF_q_next (consA (varF 0) (consA (conF (.int 13)) nilA))) (conF (.int 6)))) nilA)))
  (seqF (setF 3 (callF tupleD (consA (lcF [0] [6] (callI rng1D (consA (varF 1) nilA)) (nameG 6) yesF (ucallF FF_q_one (consA (varF 0) (consA (lstF (consA (binF subD (binF powD (conF (.int 10)) (conF (.int 30))) (conF (.int 1))) (consA (binF subD (conF (.int 1)) (binF powD (conF (.int 10)) (conF (.int 30)))) (consA (conF (.int 0)) (consA (binF powD (conF (.int 10)) (conF (.int 6))) nilA))))) nilA)))) nilA)))
  (seqF (setF 4 (lstF (consA (varF 2) (consA (varF 3) (consA (binF addD (varF 2) (tupF (consA (conF (.int 0)) nilA))) (consA (slF true false (varF 2) (conF (.int 1)) (conF .non)) (consA (callF listD (consA (varF 2) nilA)) (consA (binF mulD (tupF (consA (binF powD (conF (.int 10)) (conF (.int 30))) nilA)) (varF 1)) (consA (binF mulD (tupF (consA (unF negD (binF powD (conF (.int 10)) (conF (.int 30)))) nilA)) (varF 1)) (consA (binF mulD (tupF (consA (conF (.int 0)) nilA)) (varF 1)) nilA))))))))))
  (seqF (setF 5 (ucallF FF_q_bent (consA (varF 0) (consA (varF 2) (consA (conF (.int 2)) nilA)))))
  (retF (binF addD (varF 4) (lstF (consA (varF 5) (consA (ucallF FF_q_bent (consA (varF 0) (consA (varF 5) (consA (conF (.int 2)) nilA)))) (consA (binF mulD (tupF (consA (conF (.bl true)) nilA)) (varF 1)) (consA (conF .non) (consA (ucallF FF_q_odd (consA (varF 0) nilA)) nilA))))))))))))
noncomputable def FF_q_values : FF DS := runF 7 2 fb_q_values
theorem len_q_values {ds : List D} {t : DS} {o : FOut × DS} (h : FF_q_values ds t = some o) : ds.length = 2 := runF_len h

-- law: slots [(0, '_law_script'), (1, '_law_deck_here'), (2, '_law_turn'), (3, '_law_system_here'), (4, '_law_value'), (5, '_law_kept')]
noncomputable def fb_law : SF DS := (seqF (forF (callI rng1D (consA (conF (.int 8)) nilA)) (nameG 2) (seqF (setF 3 (ucallF FF_q_system (consA (varF 1) (consA (ucallF FF_q_great (consA (varF 1) nilA)) (consA (conF (.int 6)) (consA (conF (.int 5)) nilA))))))
  (forF (seqI (ucallF FF_q_values (consA (varF 1) (consA (callF lenD (consA (binF ixD (varF 3) (conF (.int 1))) nilA)) nilA)))) (nameG 4) (seqF (setF 5 (callF reprD (consA (lstF (consA (varF 3) (consA (varF 4) nilA))) nilA)))
  (seqF (ifF (notF (ucallF FF_q_same (consA (ucallF FF_price_bound (consA (varF 3) (consA (varF 4) nilA))) (consA (ucallF FF_q_price_bound (consA (varF 3) (consA (varF 4) nilA))) nilA)))) (retF (conF (.bl false))) nxF)
  (ifF (binF neD (callF reprD (consA (lstF (consA (varF 3) (consA (varF 4) nilA))) nilA)) (varF 5)) (retF (conF (.bl false))) nxF))))))
  (retF (conF (.bl true))))

end FD

set_option maxHeartbeats 4000000
namespace FD
open PySem PySem.Spec PyProof.Rows L2
section
variable {P : Program} {w : World} {K : PySem.W.Frag} {mg : Str → Option Value} {base : Heap} {Dx : Dk} {ca : Str → Addr} {Z : Wd}
theorem G_is_between (T : Txt K mg) : FnOk P w K mg base (L2.CX P w) 1 T.a_is_between T.d_is_between p_is_between (spF Z 3 FF_is_between) :=
  fn_body (Z := Z) (b := fb_is_between) T.F_is_between sc_is_between (by decide) (fun _ _ _ h => h) fun cdv A outer s H E C hr tk => 
  (sv_cons (sv_if (PW.pt (ew_or (et_not (et_val (ev_callB cD_isi (by rfl) T.m_isinstance (by decide +kernel) (ev_acons (ev_var (pv 0)) (ev_acons (ev_con (pe_bltn (v := .ty "int") (by rfl) T.m_int (by decide +kernel) rfl) (fun _ _ => .ty _)) ev_anil))))) (ew_or1 (et_val (ev_callB cD_isi (by rfl) T.m_isinstance (by decide +kernel) (ev_acons (ev_var (pv 0)) (ev_acons (ev_con (pe_bltn (v := .ty "bool") (by rfl) T.m_bool (by decide +kernel) rfl) (fun _ _ => .ty _)) ev_anil))))))) (sv_one (sv_ret ev_bl)) sv_nil)
  (sv_one (sv_ret (ev_chain opD_le opD_le (ev_var (pv 1)) (ev_var (pv 0)) (ev_var (pv 2))))))

theorem G_is_tuple_of (T : Txt K mg) : FnOk P w K mg base (L2.CX P w) 1 T.a_is_tuple_of T.d_is_tuple_of p_is_tuple_of (spF Z 2 FF_is_tuple_of) :=
  fn_body (Z := Z) (b := fb_is_tuple_of) T.F_is_tuple_of sc_is_tuple_of (by decide) (fun _ _ _ h => h) fun cdv A outer s H E C hr tk => 
  (sv_one (sv_ret (ev_and (ev_callB cD_isi (by rfl) T.m_isinstance (by decide +kernel) (ev_acons (ev_var (pv 0)) (ev_acons (ev_con (pe_bltn (v := .ty "tuple") (by rfl) T.m_tuple (by decide +kernel) rfl) (fun _ _ => .ty _)) ev_anil))) (ev_one (ev_cmp (opD_eq hr.units) (ev_callB cD_len (by rfl) T.m_len PySem.boot_len (ev_acons (ev_var (pv 0)) ev_anil)) (ev_var (pv 1)) (nomark _))))))

theorem G_is_prices (T : Txt K mg) : FnOk P w K mg base (L2.CX P w) 2 T.a_is_prices T.d_is_prices p_is_prices (spF Z 2 FF_is_prices) :=
  fn_body (Z := Z) (b := fb_is_prices) T.F_is_prices sc_is_prices (by decide) (fun _ _ _ h => h) fun cdv A outer s H E C hr tk => 
  (sv_cons (sv_if (et_not (et_val (ev_call (G_is_tuple_of T) (fun _ _ _ => len_is_tuple_of) tk (hr.mono (by omega)) (by rfl) T.g_is_tuple_of T.F_is_tuple_of.kp T.b_is_tuple_of (ev_acons (ev_var (pv 1)) (ev_acons (ev_callB cD_len (by rfl) T.m_len PySem.boot_len (ev_acons (ev_ix ixR (ev_var (pv 0)) ev_int (fun _ _ => rfl)) ev_anil)) ev_anil))))) (sv_one (sv_ret ev_bl)) sv_nil)
  (sv_one (sv_ret (ev_callB (cD_all rfl) (by rfl) T.m_all (by decide +kernel) (ev_acons (ev_lc (own := [("price", 2)]) (S := [2]) (sh := []) rfl sc_is_prices.nd (iv_seq (ev_var (pv 1))) (blkOk_by (own := [("price", 2)]) (N := n_is_prices) (sc := defScope s_is_prices) (by decide +kernel)) (fun C hw s H A cl fp => (gv_name (i := 2) sc_is_prices.nd rfl (.inl rfl))) (fun _ _ _ _ _ => ex_yes) (fun C hw s H A cl fp => (ev_call (G_is_between T) (fun _ _ _ => len_is_between) (takes_dead hw) (hr.mono (by omega)) (by rfl) T.g_is_between T.F_is_between.kp T.b_is_between (ev_acons (ev_var (pv 2)) (ev_acons (ev_un unD_neg (ev_con (pe_glob (v := .int 999999999999999999999999999999) (by rfl) T.g_MAX_PRICE ⟨_, rfl⟩) (fun _ _ => .int _))) (ev_acons (ev_con (pe_glob (v := .int 999999999999999999999999999999) (by rfl) T.g_MAX_PRICE ⟨_, rfl⟩) (fun _ _ => .int _)) ev_anil)))))) ev_anil)))))

theorem G_price_of_item (T : Txt K mg) : FnOk P w K mg base (L2.CX P w) 1 T.a_price_of_item T.d_price_of_item p_price_of_item (spF Z 3 FF_price_of_item) :=
  fn_body (Z := Z) (b := fb_price_of_item) T.F_price_of_item sc_price_of_item (by decide) (fun _ _ _ h => h) fun cdv A outer s H E C hr tk => 
  (sv_one (sv_ret (ev_callB (cD_sum rfl) (by rfl) T.m_sum (by decide +kernel) (ev_acons (ev_lc (own := [("price", 3), ("group", 4)]) (S := [3, 4]) (sh := [2]) rfl sc_price_of_item.nd (iv_zip (by rfl) T.m_zip (ev_acons (ev_var (pv 1)) (ev_acons (ev_ix ixR (ev_var (pv 0)) ev_int (fun _ _ => rfl)) ev_anil))) (blkOk_by (own := [("price", 3), ("group", 4)]) (N := n_price_of_item) (sc := defScope s_price_of_item) (by decide +kernel)) (fun C hw s H A cl fp => (gv_tup rfl (gv_cons (gv_name (i := 3) sc_price_of_item.nd rfl (.inl rfl)) (gv_cons (gv_name (i := 4) sc_price_of_item.nd rfl (.inl rfl)) gv_nil)))) (fun s H A cl fp => ex_one fun C hw => (et_cmp (opD_in (units65 hr)) (ev_var (pv 2)) (ev_ix ixR (ev_var (pv 4)) ev_int (fun _ _ => rfl)) (by rfl))) (fun C hw s H A cl fp => (ev_var (pv 3)))) ev_anil))))

theorem G_gain_above (T : Txt K mg) : FnOk P w K mg base (L2.CX P w) 1 T.a_gain_above T.d_gain_above p_gain_above (spF Z 2 FF_gain_above) :=
  fn_body (Z := Z) (b := fb_gain_above) T.F_gain_above sc_gain_above (by decide) (fun _ _ _ h => h) fun cdv A outer s H E C hr tk => 
  (sv_one (sv_ret (ev_callB (cD_sum rfl) (by rfl) T.m_sum (by decide +kernel) (ev_acons (ev_lc (own := [("count", 2), ("gain", 3)]) (S := [2, 3]) (sh := [1]) rfl sc_gain_above.nd (iv_seq (ev_var (pv 0))) (blkOk_by (own := [("count", 2), ("gain", 3)]) (N := n_gain_above) (sc := defScope s_gain_above) (by decide +kernel)) (fun C hw s H A cl fp => (gv_tup rfl (gv_cons (gv_name (i := 2) sc_gain_above.nd rfl (.inl rfl)) (gv_cons (gv_name (i := 3) sc_gain_above.nd rfl (.inl rfl)) gv_nil)))) (fun s H A cl fp => ex_one fun C hw => (et_cmp opD_gt (ev_var (pv 3)) (ev_var (pv 1)) (nomark _))) (fun C hw s H A cl fp => (ev_bin opD_mul (ev_var (pv 2)) (ev_bin opD_sub (ev_var (pv 3)) (ev_var (pv 1)))))) ev_anil))))

theorem G_price_bound (T : Txt K mg) : FnOk P w K mg base (L2.CX P w) 3 T.a_price_bound T.d_price_bound p_price_bound (spF Z 2 FF_price_bound) :=
  fn_body (Z := Z) (b := fb_price_bound) T.F_price_bound sc_price_bound (by decide) (fun _ _ _ h => h) fun cdv A outer s H E C hr tk => 
  (sv_cons (sv_if (et_not (et_val (ev_call (G_is_prices T) (fun _ _ _ => len_is_prices) tk (hr.mono (by omega)) (by rfl) T.g_is_prices T.F_is_prices.kp T.b_is_prices (ev_acons (ev_var (pv 0)) (ev_acons (ev_var (pv 1)) ev_anil))))) (sv_one (sv_ret ev_non)) sv_nil)
  (sv_cons (sv_set (i := 2) sc_price_bound.nd rfl (.inl rfl) ev_int)
  (sv_cons (sv_for (S := [3, 4]) (by exact passes_of rfl) rfl (iv_enum (by rfl) T.m_enumerate (ev_acons (ev_ix ixR (ev_var (pv 0)) ev_int (fun _ _ => rfl)) ev_anil)) (gv_tup rfl (gv_cons (gv_name (i := 3) sc_price_bound.nd rfl (.inl rfl)) (gv_cons (gv_name (i := 4) sc_price_bound.nd rfl (.inl rfl)) gv_nil))) (sv_one (sv_aug (i := 2) sc_price_bound.nd rfl (.inl rfl) (ev_call (G_gain_above T) (fun _ _ _ => len_gain_above) tk (hr.mono (by omega)) (by rfl) T.g_gain_above T.F_gain_above.kp T.b_gain_above (ev_acons (ev_var (pv 4)) (ev_acons (ev_call (G_price_of_item T) (fun _ _ _ => len_price_of_item) tk (hr.mono (by omega)) (by rfl) T.g_price_of_item T.F_price_of_item.kp T.b_price_of_item (ev_acons (ev_var (pv 0)) (ev_acons (ev_var (pv 1)) (ev_acons (ev_var (pv 3)) ev_anil)))) ev_anil))) ipD_add)))
  (sv_cons (sv_for (S := [5, 6, 7, 8]) (by exact passes_of rfl) rfl (iv_zip (by rfl) T.m_zip (ev_acons (ev_var (pv 1)) (ev_acons (ev_ix ixR (ev_var (pv 0)) ev_int (fun _ _ => rfl)) ev_anil))) (gv_tup rfl (gv_cons (gv_name (i := 5) sc_price_bound.nd rfl (.inl rfl)) (gv_cons (gv_tup rfl (gv_cons (gv_name (i := 6) sc_price_bound.nd rfl (.inl rfl)) (gv_cons (gv_name (i := 7) sc_price_bound.nd rfl (.inl rfl)) (gv_cons (gv_name (i := 8) sc_price_bound.nd rfl (.inl rfl)) gv_nil)))) gv_nil))) (sv_one (sv_aug (i := 2) sc_price_bound.nd rfl (.inl rfl) (ev_bin opD_mul (ev_var (pv 5)) (ev_if (et_cmp opD_gt (ev_var (pv 5)) ev_int (nomark _)) (ev_var (pv 8)) (ev_var (pv 7)))) ipD_add)))
  (sv_one (sv_ret (ev_var (pv 2))))))))

theorem G_q_one (T : Txt K mg) : FnOk P w K mg base (L2.CX P w) 2 T.a_q_one T.d_q_one p_q_one (spF (Zdk Dx ca) 2 FF_q_one) :=
  fn_body (Z := (Zdk Dx ca)) (b := fb_q_one) T.F_q_one sc_q_one (by decide) (fun _ _ _ h => h) fun cdv A outer s H E C hr tk => 
  (sv_one (sv_ret (ev_ix ixR (ev_var (pv 1)) (ev_call (G_q_next T) (fun _ _ _ => len_q_next) tk (hr.mono (by omega)) (by rfl) T.g_q_next T.F_q_next.kp T.b_q_next (ev_acons (ev_var (pv 0)) (ev_acons (ev_callB cD_len (by rfl) T.m_len PySem.boot_len (ev_acons (ev_var (pv 1)) ev_anil)) ev_anil))) (fun _ _ => rfl))))

theorem G_q_whole (T : Txt K mg) : FnOk P w K mg base (L2.CX P w) 1 T.a_q_whole T.d_q_whole p_q_whole (spF (Zdk Dx ca) 1 FF_q_whole) :=
  fn_body (Z := (Zdk Dx ca)) (b := fb_q_whole) T.F_q_whole sc_q_whole (by decide) (fun _ _ _ h => h) fun cdv A outer s H E C hr tk => 
  (sv_one (sv_ret (ev_and (ev_callB cD_isi (by rfl) T.m_isinstance (by decide +kernel) (ev_acons (ev_var (pv 0)) (ev_acons (ev_con (pe_bltn (v := .ty "int") (by rfl) T.m_int (by decide +kernel) rfl) (fun _ _ => .ty _)) ev_anil))) (ev_one (ev_not (ev_callB cD_isi (by rfl) T.m_isinstance (by decide +kernel) (ev_acons (ev_var (pv 0)) (ev_acons (ev_con (pe_bltn (v := .ty "bool") (by rfl) T.m_bool (by decide +kernel) rfl) (fun _ _ => .ty _)) ev_anil))))))))

theorem Gr_q_same (T : Txt K mg) : ∀ k : Nat, FnOk P w K mg base (L2.CX P w) (k) T.a_q_same T.d_q_same p_q_same (spF (Zdk Dx ca) 2 (FFr_q_same k))
  | 0 => ⟨fun _ _ _ _ h => h.1, fun _ _ _ _ _ _ _ _ _ _ _ _ _ h => (by obtain ⟨_, _, _, _, _, _, _, _, _, _, e, _⟩ := h; cases e)⟩
  | k + 1 => fn_body (Z := (Zdk Dx ca)) (b := fb_q_same (FFr_q_same k)) T.F_q_same sc_q_same (by decide) (fun _ _ _ h => h) fun cdv A outer s H E C hr tk => have IH := Gr_q_same T k
  (sv_cons (sv_if (et_val (ev_callB cD_isi (by rfl) T.m_isinstance (by decide +kernel) (ev_acons (ev_var (pv 1)) (ev_acons (ev_tup (ev_acons (ev_con (pe_bltn (v := .ty "tuple") (by rfl) T.m_tuple (by decide +kernel) rfl) (fun _ _ => .ty _)) (ev_acons (ev_con (pe_bltn (v := .ty "list") (by rfl) T.m_list (by decide +kernel) rfl) (fun _ _ => .ty _)) ev_anil))) ev_anil)))) (sv_cons (sv_if (et_cmp (opD_ne hr.units) (ev_callB cD_isi (by rfl) T.m_isinstance (by decide +kernel) (ev_acons (ev_var (pv 0)) (ev_acons (ev_con (pe_bltn (v := .ty "tuple") (by rfl) T.m_tuple (by decide +kernel) rfl) (fun _ _ => .ty _)) ev_anil))) (ev_callB cD_isi (by rfl) T.m_isinstance (by decide +kernel) (ev_acons (ev_var (pv 1)) (ev_acons (ev_con (pe_bltn (v := .ty "tuple") (by rfl) T.m_tuple (by decide +kernel) rfl) (fun _ _ => .ty _)) ev_anil))) (nomark _)) (sv_one (sv_ret ev_bl)) sv_nil)
  (sv_cons (sv_if (et_cmp (opD_ne hr.units) (ev_callB cD_isi (by rfl) T.m_isinstance (by decide +kernel) (ev_acons (ev_var (pv 0)) (ev_acons (ev_con (pe_bltn (v := .ty "list") (by rfl) T.m_list (by decide +kernel) rfl) (fun _ _ => .ty _)) ev_anil))) (ev_callB cD_isi (by rfl) T.m_isinstance (by decide +kernel) (ev_acons (ev_var (pv 1)) (ev_acons (ev_con (pe_bltn (v := .ty "list") (by rfl) T.m_list (by decide +kernel) rfl) (fun _ _ => .ty _)) ev_anil))) (nomark _)) (sv_one (sv_ret ev_bl)) sv_nil)
  (sv_cons (sv_if (et_cmp (opD_ne hr.units) (ev_callB cD_len (by rfl) T.m_len PySem.boot_len (ev_acons (ev_var (pv 0)) ev_anil)) (ev_callB cD_len (by rfl) T.m_len PySem.boot_len (ev_acons (ev_var (pv 1)) ev_anil)) (nomark _)) (sv_one (sv_ret ev_bl)) sv_nil)
  (sv_one (sv_ret (ev_cmp (opD_eq hr.units) (ev_lc (own := [("_law_k", 2)]) (S := [2]) (sh := [0, 1]) rfl sc_q_same.nd (iv_range1 (by rfl) T.m_range (ev_acons (ev_callB cD_len (by rfl) T.m_len PySem.boot_len (ev_acons (ev_var (pv 1)) ev_anil)) ev_anil)) (blkOk_by (own := [("_law_k", 2)]) (N := n_q_same) (sc := defScope s_q_same) (by decide +kernel)) (fun C hw s H A cl fp => (gv_name (i := 2) sc_q_same.nd rfl (.inl rfl))) (fun s H A cl fp => ex_one fun C hw => (et_not (et_val (ev_call IH (fun _ _ _ => lenr_q_same) (takes_dead hw) (hr.mono (by omega)) (by rfl) T.g_q_same T.F_q_same.kp T.b_q_same (ev_acons (ev_ix ixR (ev_var (pv 0)) (ev_var (pv 2)) (fun _ _ => rfl)) (ev_acons (ev_ix ixR (ev_var (pv 1)) (ev_var (pv 2)) (fun _ _ => rfl)) ev_anil)))))) (fun C hw s H A cl fp => (ev_var (pv 2)))) (ev_lst ev_anil) (nomark _))))))) sv_nil)
  (sv_cons (sv_if (et_val (ev_callB cD_isi (by rfl) T.m_isinstance (by decide +kernel) (ev_acons (ev_var (pv 1)) (ev_acons (ev_con (pe_bltn (v := .ty "dict") (by rfl) T.m_dict (by decide +kernel) rfl) (fun _ _ => .ty _)) ev_anil)))) (sv_one (sv_ret (ev_and (ev_callB cD_isi (by rfl) T.m_isinstance (by decide +kernel) (ev_acons (ev_var (pv 0)) (ev_acons (ev_con (pe_bltn (v := .ty "dict") (by rfl) T.m_dict (by decide +kernel) rfl) (fun _ _ => .ty _)) ev_anil))) (ev_one (ev_cmp (opD_eq hr.units) (ev_var (pv 0)) (ev_var (pv 1)) (nomark _)))))) sv_nil)
  (sv_cons (sv_if (et_cmp opD_is (ev_var (pv 1)) ev_non (nomark _)) (sv_one (sv_ret (ev_cmp opD_is (ev_var (pv 0)) ev_non (nomark _)))) sv_nil)
  (sv_cons (sv_if (et_val (ev_callB cD_isi (by rfl) T.m_isinstance (by decide +kernel) (ev_acons (ev_var (pv 1)) (ev_acons (ev_con (pe_bltn (v := .ty "str") (by rfl) T.m_str (by decide +kernel) rfl) (fun _ _ => .ty _)) ev_anil)))) (sv_one (sv_ret (ev_and (ev_callB cD_isi (by rfl) T.m_isinstance (by decide +kernel) (ev_acons (ev_var (pv 0)) (ev_acons (ev_con (pe_bltn (v := .ty "str") (by rfl) T.m_str (by decide +kernel) rfl) (fun _ _ => .ty _)) ev_anil))) (ev_one (ev_cmp (opD_eq hr.units) (ev_var (pv 0)) (ev_var (pv 1)) (nomark _)))))) sv_nil)
  (sv_one (sv_ret (ev_and (ev_callB cD_isi (by rfl) T.m_isinstance (by decide +kernel) (ev_acons (ev_var (pv 0)) (ev_acons (ev_con (pe_bltn (v := .ty "int") (by rfl) T.m_int (by decide +kernel) rfl) (fun _ _ => .ty _)) ev_anil))) (ev_and (ev_cmp (opD_eq hr.units) (ev_callB cD_isi (by rfl) T.m_isinstance (by decide +kernel) (ev_acons (ev_var (pv 0)) (ev_acons (ev_con (pe_bltn (v := .ty "bool") (by rfl) T.m_bool (by decide +kernel) rfl) (fun _ _ => .ty _)) ev_anil))) (ev_callB cD_isi (by rfl) T.m_isinstance (by decide +kernel) (ev_acons (ev_var (pv 1)) (ev_acons (ev_con (pe_bltn (v := .ty "bool") (by rfl) T.m_bool (by decide +kernel) rfl) (fun _ _ => .ty _)) ev_anil))) (nomark _)) (ev_one (ev_cmp (opD_eq hr.units) (ev_var (pv 0)) (ev_var (pv 1)) (nomark _)))))))))))
theorem G_q_same (T : Txt K mg) : FnOk P w K mg base (L2.CX P w) 12 T.a_q_same T.d_q_same p_q_same (spF (Zdk Dx ca) 2 FF_q_same) := Gr_q_same T 12

theorem G_q_odd (T : Txt K mg) : FnOk P w K mg base (L2.CX P w) 2 T.a_q_odd T.d_q_odd p_q_odd (spF (Zdk Dx ca) 1 FF_q_odd) :=
  fn_body (Z := (Zdk Dx ca)) (b := fb_q_odd) T.F_q_odd sc_q_odd (by decide) (fun _ _ _ h => h) fun cdv A outer s H E C hr tk => 
  (sv_cons (sv_set (i := 1) sc_q_odd.nd rfl (.inl rfl) (ev_lst (ev_acons ev_non (ev_acons ev_bl (ev_acons ev_bl (ev_acons ev_int (ev_acons ev_int (ev_acons (ev_un unD_neg ev_int) (ev_acons ev_int (ev_acons ev_int (ev_acons ev_int (ev_acons (ev_bin opD_pow ev_int ev_int) (ev_acons (ev_bin opD_add (ev_bin opD_pow ev_int ev_int) ev_int) (ev_acons (ev_bin opD_pow ev_int ev_int) (ev_acons ev_str (ev_acons ev_str (ev_acons ev_str (ev_acons (ev_tup ev_anil) (ev_acons (ev_tup (ev_acons ev_int ev_anil)) ev_anil)))))))))))))))))))
  (sv_one (sv_ret (ev_ix ixR (ev_bin opD_add (ev_var (pv 1)) (ev_lst (ev_acons (ev_tup (ev_acons ev_int (ev_acons ev_int ev_anil))) (ev_acons (ev_lst ev_anil) (ev_acons ev_dct0 (ev_acons (ev_lst (ev_acons ev_int ev_anil)) (ev_acons (ev_tup (ev_acons ev_bl ev_anil)) (ev_acons (ev_tup (ev_acons (ev_tup ev_anil) ev_anil)) ev_anil)))))))) (ev_call (G_q_next T) (fun _ _ _ => len_q_next) tk (hr.mono (by omega)) (by rfl) T.g_q_next T.F_q_next.kp T.b_q_next (ev_acons (ev_var (pv 0)) (ev_acons ev_int ev_anil))) (fun _ _ => rfl)))))

theorem Gr_q_bent (T : Txt K mg) : ∀ k : Nat, FnOk P w K mg base (L2.CX P w) (k + 2) T.a_q_bent T.d_q_bent p_q_bent (spF (Zdk Dx ca) 3 (FFr_q_bent k))
  | 0 => ⟨fun _ _ _ _ h => h.1, fun _ _ _ _ _ _ _ _ _ _ _ _ _ h => (by obtain ⟨_, _, _, _, _, _, _, _, _, _, e, _⟩ := h; cases e)⟩
  | k + 1 => fn_body (Z := (Zdk Dx ca)) (b := fb_q_bent (FFr_q_bent k)) T.F_q_bent sc_q_bent (by decide) (fun _ _ _ h => h) fun cdv A outer s H E C hr tk => have IH := Gr_q_bent T k
  (sv_cons (sv_if (PW.pt (ew_and (et_val (ev_callB cD_isi (by rfl) T.m_isinstance (by decide +kernel) (ev_acons (ev_var (pv 1)) (ev_acons (ev_con (pe_bltn (v := .ty "tuple") (by rfl) T.m_tuple (by decide +kernel) rfl) (fun _ _ => .ty _)) ev_anil)))) (ew_and (et_cmp (opD_ne hr.units) (ev_var (pv 1)) (ev_tup ev_anil) (nomark _)) (ew_and (et_cmp opD_gt (ev_var (pv 2)) ev_int (nomark _)) (ew_and1 (et_cmp opD_gt (ev_call (G_q_next T) (fun _ _ _ => len_q_next) tk (hr.mono (by omega)) (by rfl) T.g_q_next T.F_q_next.kp T.b_q_next (ev_acons (ev_var (pv 0)) (ev_acons ev_int ev_anil))) ev_int (nomark _))))))) (sv_cons (sv_set (i := 3) sc_q_bent.nd rfl (.inl rfl) (ev_call (G_q_next T) (fun _ _ _ => len_q_next) tk (hr.mono (by omega)) (by rfl) T.g_q_next T.F_q_next.kp T.b_q_next (ev_acons (ev_var (pv 0)) (ev_acons (ev_callB cD_len (by rfl) T.m_len PySem.boot_len (ev_acons (ev_var (pv 1)) ev_anil)) ev_anil))))
  (sv_one (sv_ret (ev_bin opD_add (ev_bin opD_add (ev_slice (ev_var (pv 1)) pd_no (pd_some (ev_var (pv 3)))) (ev_tup (ev_acons (ev_call IH (fun _ _ _ => lenr_q_bent) tk (hr.mono (by omega)) (by rfl) T.g_q_bent T.F_q_bent.kp T.b_q_bent (ev_acons (ev_var (pv 0)) (ev_acons (ev_ix ixR (ev_var (pv 1)) (ev_var (pv 3)) (fun _ _ => rfl)) (ev_acons (ev_bin opD_sub (ev_var (pv 2)) ev_int) ev_anil)))) ev_anil))) (ev_slice (ev_var (pv 1)) (pd_some (ev_bin opD_add (ev_var (pv 3)) ev_int)) pd_no))))) sv_nil)
  (sv_cons (sv_if (et_val (ev_callB cD_isi (by rfl) T.m_isinstance (by decide +kernel) (ev_acons (ev_var (pv 1)) (ev_acons (ev_con (pe_bltn (v := .ty "tuple") (by rfl) T.m_tuple (by decide +kernel) rfl) (fun _ _ => .ty _)) ev_anil)))) (sv_one (sv_ret (ev_ix ixR (ev_lst (ev_acons (ev_slice (ev_var (pv 1)) (pd_some ev_int) pd_no) (ev_acons (ev_bin opD_add (ev_var (pv 1)) (ev_slice (ev_var (pv 1)) (pd_some (ev_un unD_neg ev_int)) pd_no)) (ev_acons (ev_rev (ev_var (pv 1))) (ev_acons (ev_callTy cD_list (by rfl) T.m_list (by decide +kernel) (ev_acons (ev_var (pv 1)) ev_anil)) (ev_acons (ev_call (G_q_odd T) (fun _ _ _ => len_q_odd) tk (hr.mono (by omega)) (by rfl) T.g_q_odd T.F_q_odd.kp T.b_q_odd (ev_acons (ev_var (pv 0)) ev_anil)) ev_anil)))))) (ev_call (G_q_next T) (fun _ _ _ => len_q_next) tk (hr.mono (by omega)) (by rfl) T.g_q_next T.F_q_next.kp T.b_q_next (ev_acons (ev_var (pv 0)) (ev_acons ev_int ev_anil))) (fun _ _ => rfl)))) sv_nil)
  (sv_cons (sv_if (et_val (ev_callB cD_isi (by rfl) T.m_isinstance (by decide +kernel) (ev_acons (ev_var (pv 1)) (ev_acons (ev_con (pe_bltn (v := .ty "int") (by rfl) T.m_int (by decide +kernel) rfl) (fun _ _ => .ty _)) ev_anil)))) (sv_one (sv_ret (ev_ix ixR (ev_lst (ev_acons (ev_bin opD_add (ev_var (pv 1)) ev_int) (ev_acons (ev_bin opD_sub (ev_var (pv 1)) ev_int) (ev_acons (ev_callTy cD_str (by rfl) T.m_str (by decide +kernel) (ev_acons (ev_var (pv 1)) ev_anil)) (ev_acons (ev_cmp (opD_eq hr.units) (ev_var (pv 1)) ev_int (nomark _)) (ev_acons ev_int (ev_acons (ev_call (G_q_odd T) (fun _ _ _ => len_q_odd) tk (hr.mono (by omega)) (by rfl) T.g_q_odd T.F_q_odd.kp T.b_q_odd (ev_acons (ev_var (pv 0)) ev_anil)) ev_anil))))))) (ev_call (G_q_next T) (fun _ _ _ => len_q_next) tk (hr.mono (by omega)) (by rfl) T.g_q_next T.F_q_next.kp T.b_q_next (ev_acons (ev_var (pv 0)) (ev_acons ev_int ev_anil))) (fun _ _ => rfl)))) sv_nil)
  (sv_one (sv_ret (ev_call (G_q_odd T) (fun _ _ _ => len_q_odd) tk (hr.mono (by omega)) (by rfl) T.g_q_odd T.F_q_odd.kp T.b_q_odd (ev_acons (ev_var (pv 0)) ev_anil)))))))
theorem G_q_bent (T : Txt K mg) : FnOk P w K mg base (L2.CX P w) 14 T.a_q_bent T.d_q_bent p_q_bent (spF (Zdk Dx ca) 3 FF_q_bent) := Gr_q_bent T 12

theorem G_q_great (T : Txt K mg) : FnOk P w K mg base (L2.CX P w) 2 T.a_q_great T.d_q_great p_q_great (spF (Zdk Dx ca) 1 FF_q_great) :=
  fn_body (Z := (Zdk Dx ca)) (b := fb_q_great) T.F_q_great sc_q_great (by decide) (fun _ _ _ h => h) fun cdv A outer s H E C hr tk => 
  (sv_one (sv_ret (ev_ix ixR (ev_lst (ev_acons ev_int (ev_acons ev_int (ev_acons ev_int (ev_acons (ev_bin opD_pow ev_int ev_int) ev_anil))))) (ev_call (G_q_next T) (fun _ _ _ => len_q_next) tk (hr.mono (by omega)) (by rfl) T.g_q_next T.F_q_next.kp T.b_q_next (ev_acons (ev_var (pv 0)) (ev_acons ev_int ev_anil))) (fun _ _ => rfl))))

theorem G_q_gains (T : Txt K mg) : FnOk P w K mg base (L2.CX P w) 2 T.a_q_gains T.d_q_gains p_q_gains (spF (Zdk Dx ca) 3 FF_q_gains) :=
  fn_body (Z := (Zdk Dx ca)) (b := fb_q_gains) T.F_q_gains sc_q_gains (by decide) (fun _ _ _ h => h) fun cdv A outer s H E C hr tk => 
  (sv_cons (sv_parN (i := 3) (j := 4) rfl sc_q_gains.nd rfl rfl (by decide) rfl rfl (ev_bin opD_sub (ev_call (G_q_next T) (fun _ _ _ => len_q_next) tk (hr.mono (by omega)) (by rfl) T.g_q_next T.F_q_next.kp T.b_q_next (ev_acons (ev_var (pv 0)) (ev_acons ev_int ev_anil))) ev_int) (by rfl))
  (sv_cons (sv_for (S := [5]) (by exact passes_of rfl) rfl (iv_range1 (by rfl) T.m_range (ev_acons (ev_call (G_q_next T) (fun _ _ _ => len_q_next) tk (hr.mono (by omega)) (by rfl) T.g_q_next T.F_q_next.kp T.b_q_next (ev_acons (ev_var (pv 0)) (ev_acons (ev_bin opD_add (ev_var (pv 2)) ev_int) ev_anil))) ev_anil)) (gv_name (i := 5) sc_q_gains.nd rfl (.inl rfl)) (sv_cons (sv_expr (ev_append (pv 4) (ev_acons (ev_tup (ev_acons (ev_bin opD_add ev_int (ev_call (G_q_next T) (fun _ _ _ => len_q_next) tk (hr.mono (by omega)) (by rfl) T.g_q_next T.F_q_next.kp T.b_q_next (ev_acons (ev_var (pv 0)) (ev_acons (ev_var (pv 1)) ev_anil)))) (ev_acons (ev_var (pv 3)) ev_anil))) ev_anil)))
  (sv_one (sv_set (i := 3) sc_q_gains.nd rfl (.inl rfl) (ev_bin opD_sub (ev_bin opD_sub (ev_var (pv 3)) ev_int) (ev_call (G_q_next T) (fun _ _ _ => len_q_next) tk (hr.mono (by omega)) (by rfl) T.g_q_next T.F_q_next.kp T.b_q_next (ev_acons (ev_var (pv 0)) (ev_acons ev_int ev_anil))))))))
  (sv_one (sv_ret (ev_callTy cD_tuple (by rfl) T.m_tuple (by decide +kernel) (ev_acons (ev_var (pv 4)) ev_anil))))))

theorem G_q_capacity (T : Txt K mg) : FnOk P w K mg base (L2.CX P w) 1 T.a_q_capacity T.d_q_capacity p_q_capacity (spF (Zdk Dx ca) 1 FF_q_capacity) :=
  fn_body (Z := (Zdk Dx ca)) (b := fb_q_capacity) T.F_q_capacity sc_q_capacity (by decide) (fun _ _ _ h => h) fun cdv A outer s H E C hr tk => 
  (sv_one (sv_ret (ev_callB (cD_sum rfl) (by rfl) T.m_sum (by decide +kernel) (ev_acons (ev_lc (own := [("_law_count", 1), ("_law_gain", 2)]) (S := [1, 2]) (sh := []) rfl sc_q_capacity.nd (iv_seq (ev_var (pv 0))) (blkOk_by (own := [("_law_count", 1), ("_law_gain", 2)]) (N := n_q_capacity) (sc := defScope s_q_capacity) (by decide +kernel)) (fun C hw s H A cl fp => (gv_tup rfl (gv_cons (gv_name (i := 1) sc_q_capacity.nd rfl (.inl rfl)) (gv_cons (gv_name (i := 2) sc_q_capacity.nd rfl (.inl rfl)) gv_nil)))) (fun _ _ _ _ _ => ex_yes) (fun C hw s H A cl fp => (ev_var (pv 1)))) ev_anil))))

theorem G_q_family (T : Txt K mg) : FnOk P w K mg base (L2.CX P w) 2 T.a_q_family T.d_q_family p_q_family (spF (Zdk Dx ca) 2 FF_q_family) :=
  fn_body (Z := (Zdk Dx ca)) (b := fb_q_family) T.F_q_family sc_q_family (by decide) (fun _ _ _ h => h) fun cdv A outer s H E C hr tk => 
  (sv_cons (sv_parN (i := 2) (j := 3) rfl sc_q_family.nd rfl rfl (by decide) rfl rfl (ev_lc (own := [("_law_k", 7)]) (S := [7]) (sh := []) rfl sc_q_family.nd (iv_range1 (by rfl) T.m_range (ev_acons (ev_var (pv 1)) ev_anil)) (blkOk_by (own := [("_law_k", 7)]) (N := n_q_family) (sc := defScope s_q_family) (by decide +kernel)) (fun C hw s H A cl fp => (gv_name (i := 7) sc_q_family.nd rfl (.inl rfl))) (fun _ _ _ _ _ => ex_yes) (fun C hw s H A cl fp => (ev_tup (ev_acons (ev_var (pv 7)) ev_anil)))) (by rfl))
  (sv_cons (sv_for (S := [4]) (by exact passes_of rfl) rfl (iv_seq (ev_callTy cD_list (by rfl) T.m_list (by decide +kernel) (ev_acons (ev_var (pv 2)) ev_anil))) (gv_name (i := 4) sc_q_family.nd rfl (.inl rfl)) (sv_one (sv_if (et_cmp (opD_eq hr.units) (ev_call (G_q_next T) (fun _ _ _ => len_q_next) tk (hr.mono (by omega)) (by rfl) T.g_q_next T.F_q_next.kp T.b_q_next (ev_acons (ev_var (pv 0)) (ev_acons ev_int ev_anil))) ev_int (nomark _)) (sv_one (sv_expr (ev_append (pv 3) (ev_acons (ev_var (pv 4)) ev_anil)))) sv_nil)))
  (sv_cons (sv_while (by exact passes_of rfl) (PW.pt (ew_and (et_cmp opD_gt (ev_callB cD_len (by rfl) T.m_len PySem.boot_len (ev_acons (ev_var (pv 2)) ev_anil)) ev_int (nomark _)) (ew_and1 (et_cmp opD_gt (ev_call (G_q_next T) (fun _ _ _ => len_q_next) tk (hr.mono (by omega)) (by rfl) T.g_q_next T.F_q_next.kp T.b_q_next (ev_acons (ev_var (pv 0)) (ev_acons ev_int ev_anil))) ev_int (nomark _))))) (sv_cons (sv_set (i := 5) sc_q_family.nd rfl (.inl rfl) (ev_pop (pv 2) (ev_acons (ev_call (G_q_next T) (fun _ _ _ => len_q_next) tk (hr.mono (by omega)) (by rfl) T.g_q_next T.F_q_next.kp T.b_q_next (ev_acons (ev_var (pv 0)) (ev_acons (ev_callB cD_len (by rfl) T.m_len PySem.boot_len (ev_acons (ev_var (pv 2)) ev_anil)) ev_anil))) ev_anil)))
  (sv_cons (sv_set (i := 6) sc_q_family.nd rfl (.inl rfl) (ev_pop (pv 2) (ev_acons (ev_call (G_q_next T) (fun _ _ _ => len_q_next) tk (hr.mono (by omega)) (by rfl) T.g_q_next T.F_q_next.kp T.b_q_next (ev_acons (ev_var (pv 0)) (ev_acons (ev_callB cD_len (by rfl) T.m_len PySem.boot_len (ev_acons (ev_var (pv 2)) ev_anil)) ev_anil))) ev_anil)))
  (sv_cons (sv_expr (ev_append (pv 2) (ev_acons (ev_callTy cD_tuple (by rfl) T.m_tuple (by decide +kernel) (ev_acons (ev_callB cD_sort (by rfl) T.m_sorted (by decide +kernel) (ev_acons (ev_bin opD_add (ev_var (pv 5)) (ev_var (pv 6))) ev_anil)) ev_anil)) ev_anil)))
  (sv_one (sv_if (et_cmp opD_gt (ev_call (G_q_next T) (fun _ _ _ => len_q_next) tk (hr.mono (by omega)) (by rfl) T.g_q_next T.F_q_next.kp T.b_q_next (ev_acons (ev_var (pv 0)) (ev_acons ev_int ev_anil))) ev_int (nomark _)) (sv_one (sv_expr (ev_append (pv 3) (ev_acons (ev_ix ixR (ev_var (pv 2)) (ev_un unD_neg ev_int) (fun _ _ => rfl)) ev_anil)))) sv_nil))))))
  (sv_one (sv_ret (ev_slice (ev_var (pv 3)) (pd_some (ev_un unD_neg ev_int)) pd_no))))))

theorem G_q_limits (T : Txt K mg) : FnOk P w K mg base (L2.CX P w) 2 T.a_q_limits T.d_q_limits p_q_limits (spF (Zdk Dx ca) 3 FF_q_limits) :=
  fn_body (Z := (Zdk Dx ca)) (b := fb_q_limits) T.F_q_limits sc_q_limits (by decide) (fun _ _ _ h => h) fun cdv A outer s H E C hr tk => 
  (sv_cons (sv_par (i := 1) (j := 3) rfl sc_q_limits.nd rfl rfl (by decide) rfl rfl (ev_callB (cD_min2 rfl) (by rfl) T.m_min (by decide +kernel) (ev_acons (ev_var (pv 1)) (ev_acons (ev_bin opD_pow ev_int ev_int) ev_anil))) (ev_call (G_q_next T) (fun _ _ _ => len_q_next) tk (hr.mono (by omega)) (by rfl) T.g_q_next T.F_q_next.kp T.b_q_next (ev_acons (ev_var (pv 0)) (ev_acons ev_int ev_anil))) (by rfl))
  (sv_cons (sv_if (et_cmp (opD_eq hr.units) (ev_var (pv 3)) ev_int (nomark _)) (sv_cons (sv_set (i := 4) sc_q_limits.nd rfl (.inl rfl) (ev_call (G_q_next T) (fun _ _ _ => len_q_next) tk (hr.mono (by omega)) (by rfl) T.g_q_next T.F_q_next.kp T.b_q_next (ev_acons (ev_var (pv 0)) (ev_acons (ev_bin opD_add (ev_callB (cD_min2 rfl) (by rfl) T.m_min (by decide +kernel) (ev_acons (ev_var (pv 2)) (ev_acons (ev_bin opD_pow ev_int ev_int) ev_anil))) ev_int) ev_anil))))
  (sv_one (sv_ret (ev_tup (ev_acons (ev_var (pv 4)) (ev_acons (ev_callB (cD_min2 rfl) (by rfl) T.m_min (by decide +kernel) (ev_acons (ev_bin opD_pow ev_int ev_int) (ev_acons (ev_bin opD_add (ev_var (pv 4)) (ev_call (G_q_next T) (fun _ _ _ => len_q_next) tk (hr.mono (by omega)) (by rfl) T.g_q_next T.F_q_next.kp T.b_q_next (ev_acons (ev_var (pv 0)) (ev_acons ev_int ev_anil)))) ev_anil))) ev_anil)))))) sv_nil)
  (sv_cons (sv_par (i := 4) (j := 5) rfl sc_q_limits.nd rfl rfl (by decide) rfl rfl (ev_callB (cD_max2 rfl) (by rfl) T.m_max (by decide +kernel) (ev_acons ev_int (ev_acons (ev_bin opD_sub (ev_var (pv 1)) (ev_call (G_q_next T) (fun _ _ _ => len_q_next) tk (hr.mono (by omega)) (by rfl) T.g_q_next T.F_q_next.kp T.b_q_next (ev_acons (ev_var (pv 0)) (ev_acons ev_int ev_anil)))) ev_anil))) (ev_callB (cD_min2 rfl) (by rfl) T.m_min (by decide +kernel) (ev_acons (ev_bin opD_pow ev_int ev_int) (ev_acons (ev_bin opD_add (ev_var (pv 1)) (ev_call (G_q_next T) (fun _ _ _ => len_q_next) tk (hr.mono (by omega)) (by rfl) T.g_q_next T.F_q_next.kp T.b_q_next (ev_acons (ev_var (pv 0)) (ev_acons ev_int ev_anil)))) ev_anil))) (by rfl))
  (sv_one (sv_ret (ev_ix ixR (ev_lst (ev_acons (ev_tup (ev_acons ev_int (ev_acons (ev_var (pv 1)) ev_anil))) (ev_acons (ev_tup (ev_acons (ev_var (pv 1)) (ev_acons (ev_var (pv 1)) ev_anil))) (ev_acons (ev_tup (ev_acons (ev_var (pv 4)) (ev_acons (ev_var (pv 5)) ev_anil))) (ev_acons (ev_tup (ev_acons ev_int (ev_acons (ev_var (pv 5)) ev_anil))) (ev_acons (ev_tup (ev_acons (ev_var (pv 4)) (ev_acons (ev_bin opD_pow ev_int ev_int) ev_anil))) ev_anil)))))) (ev_bin opD_sub (ev_var (pv 3)) ev_int) (fun _ _ => rfl)))))))

theorem G_q_system (T : Txt K mg) : FnOk P w K mg base (L2.CX P w) 3 T.a_q_system T.d_q_system p_q_system (spF (Zdk Dx ca) 4 FF_q_system) :=
  fn_body (Z := (Zdk Dx ca)) (b := fb_q_system) T.F_q_system sc_q_system (by decide) (fun _ _ _ h => h) fun cdv A outer s H E C hr tk => 
  (sv_cons (sv_set (i := 4) sc_q_system.nd rfl (.inr rfl) (ev_callTy cD_tuple (by rfl) T.m_tuple (by decide +kernel) (ev_acons (ev_lc (own := [("_law_k", 11)]) (S := [11]) (sh := [0, 1, 3]) rfl sc_q_system.nd (iv_range1 (by rfl) T.m_range (ev_acons (ev_bin opD_add ev_int (ev_call (G_q_next T) (fun _ _ _ => len_q_next) tk (hr.mono (by omega)) (by rfl) T.g_q_next T.F_q_next.kp T.b_q_next (ev_acons (ev_var (pv 0)) (ev_acons (ev_var (pv 2)) ev_anil)))) ev_anil)) (blkOk_by (own := [("_law_k", 11)]) (N := n_q_system) (sc := defScope s_q_system) (by decide +kernel)) (fun C hw s H A cl fp => (gv_name (i := 11) sc_q_system.nd rfl (.inl rfl))) (fun _ _ _ _ _ => ex_yes) (fun C hw s H A cl fp => (ev_call (G_q_gains T) (fun _ _ _ => len_q_gains) (takes_dead hw) (hr.mono (by omega)) (by rfl) T.g_q_gains T.F_q_gains.kp T.b_q_gains (ev_acons (ev_var (pv 0)) (ev_acons (ev_var (pv 1)) (ev_acons (ev_var (pv 3)) ev_anil)))))) ev_anil)))
  (sv_cons (sv_tupB (i := 5) (j := 6) rfl sc_q_system.nd rfl rfl (.inr rfl) (.inl rfl) (ev_lc (own := [("_law_gains_here", 12)]) (S := [12]) (sh := [0]) rfl sc_q_system.nd (iv_seq (ev_var (pv 4))) (blkOk_by (own := [("_law_gains_here", 12)]) (N := n_q_system) (sc := defScope s_q_system) (by decide +kernel)) (fun C hw s H A cl fp => (gv_name (i := 12) sc_q_system.nd rfl (.inl rfl))) (fun _ _ _ _ _ => ex_yes) (fun C hw s H A cl fp => (ev_call (G_q_next T) (fun _ _ _ => len_q_next) (takes_dead hw) (hr.mono (by omega)) (by rfl) T.g_q_next T.F_q_next.kp T.b_q_next (ev_acons (ev_var (pv 0)) (ev_acons (ev_bin opD_add (ev_call (G_q_capacity T) (fun _ _ _ => len_q_capacity) (takes_dead hw) (hr.mono (by omega)) (by rfl) T.g_q_capacity T.F_q_capacity.kp T.b_q_capacity (ev_acons (ev_var (pv 12)) ev_anil)) ev_int) ev_anil))))) (fun C hw => (ev_lst ev_anil)))
  (sv_cons (sv_for (S := [7]) (by exact passes_of rfl) rfl (iv_seq (ev_call (G_q_family T) (fun _ _ _ => len_q_family) tk (hr.mono (by omega)) (by rfl) T.g_q_family T.F_q_family.kp T.b_q_family (ev_acons (ev_var (pv 0)) (ev_acons (ev_callB cD_len (by rfl) T.m_len PySem.boot_len (ev_acons (ev_var (pv 4)) ev_anil)) ev_anil)))) (gv_name (i := 7) sc_q_system.nd rfl (.inl rfl)) (sv_cons (sv_set (i := 8) sc_q_system.nd rfl (.inl rfl) (ev_callB (cD_sum rfl) (by rfl) T.m_sum (by decide +kernel) (ev_acons (ev_lc (own := [("_law_k", 11)]) (S := [11]) (sh := [4]) rfl sc_q_system.nd (iv_seq (ev_var (pv 7))) (blkOk_by (own := [("_law_k", 11)]) (N := n_q_system) (sc := defScope s_q_system) (by decide +kernel)) (fun C hw s H A cl fp => (gv_name (i := 11) sc_q_system.nd rfl (.inl rfl))) (fun _ _ _ _ _ => ex_yes) (fun C hw s H A cl fp => (ev_call (G_q_capacity T) (fun _ _ _ => len_q_capacity) (takes_dead hw) (hr.mono (by omega)) (by rfl) T.g_q_capacity T.F_q_capacity.kp T.b_q_capacity (ev_acons (ev_ix ixR (ev_var (pv 4)) (ev_var (pv 11)) (fun _ _ => rfl)) ev_anil)))) ev_anil)))
  (sv_cons (sv_asg (S := [9, 10]) (ev_call (G_q_limits T) (fun _ _ _ => len_q_limits) tk (hr.mono (by omega)) (by rfl) T.g_q_limits T.F_q_limits.kp T.b_q_limits (ev_acons (ev_var (pv 0)) (ev_acons (ev_callB (cD_sum rfl) (by rfl) T.m_sum (by decide +kernel) (ev_acons (ev_lc (own := [("_law_k", 11)]) (S := [11]) (sh := [5]) rfl sc_q_system.nd (iv_seq (ev_var (pv 7))) (blkOk_by (own := [("_law_k", 11)]) (N := n_q_system) (sc := defScope s_q_system) (by decide +kernel)) (fun C hw s H A cl fp => (gv_name (i := 11) sc_q_system.nd rfl (.inl rfl))) (fun _ _ _ _ _ => ex_yes) (fun C hw s H A cl fp => (ev_ix ixR (ev_var (pv 5)) (ev_var (pv 11)) (fun _ _ => rfl)))) ev_anil)) (ev_acons (ev_var (pv 8)) ev_anil)))) (gv_tup rfl (gv_cons (gv_name (i := 9) sc_q_system.nd rfl (.inl rfl)) (gv_cons (gv_name (i := 10) sc_q_system.nd rfl (.inl rfl)) gv_nil))))
  (sv_one (sv_expr (ev_append (pv 6) (ev_acons (ev_tup (ev_acons (ev_var (pv 7)) (ev_acons (ev_var (pv 9)) (ev_acons (ev_var (pv 10)) ev_anil)))) ev_anil)))))))
  (sv_one (sv_ret (ev_tup (ev_acons (ev_var (pv 4)) (ev_acons (ev_callTy cD_tuple (by rfl) T.m_tuple (by decide +kernel) (ev_acons (ev_var (pv 6)) ev_anil)) ev_anil))))))))

theorem G_q_item_price (T : Txt K mg) : FnOk P w K mg base (L2.CX P w) 1 T.a_q_item_price T.d_q_item_price p_q_item_price (spF (Zdk Dx ca) 3 FF_q_item_price) :=
  fn_body (Z := (Zdk Dx ca)) (b := fb_q_item_price) T.F_q_item_price sc_q_item_price (by decide) (fun _ _ _ h => h) fun cdv A outer s H E C hr tk => 
  (sv_one (sv_ret (ev_callB (cD_sum rfl) (by rfl) T.m_sum (by decide +kernel) (ev_acons (ev_lc (own := [("_law_price", 3), ("_law_group", 4)]) (S := [3, 4]) (sh := [2]) rfl sc_q_item_price.nd (iv_zip (by rfl) T.m_zip (ev_acons (ev_var (pv 1)) (ev_acons (ev_ix ixR (ev_var (pv 0)) ev_int (fun _ _ => rfl)) ev_anil))) (blkOk_by (own := [("_law_price", 3), ("_law_group", 4)]) (N := n_q_item_price) (sc := defScope s_q_item_price) (by decide +kernel)) (fun C hw s H A cl fp => (gv_tup rfl (gv_cons (gv_name (i := 3) sc_q_item_price.nd rfl (.inl rfl)) (gv_cons (gv_name (i := 4) sc_q_item_price.nd rfl (.inl rfl)) gv_nil)))) (fun s H A cl fp => ex_one fun C hw => (et_cmp (opD_in (units65 hr)) (ev_var (pv 2)) (ev_ix ixR (ev_var (pv 4)) ev_int (fun _ _ => rfl)) (by rfl))) (fun C hw s H A cl fp => (ev_var (pv 3)))) ev_anil))))

theorem G_q_item_value (T : Txt K mg) : FnOk P w K mg base (L2.CX P w) 1 T.a_q_item_value T.d_q_item_value p_q_item_value (spF (Zdk Dx ca) 2 FF_q_item_value) :=
  fn_body (Z := (Zdk Dx ca)) (b := fb_q_item_value) T.F_q_item_value sc_q_item_value (by decide) (fun _ _ _ h => h) fun cdv A outer s H E C hr tk => 
  (sv_cons (sv_par3C (i := 2) (j := 3) (l := 4) rfl sc_q_item_value.nd rfl rfl rfl (by decide) (by decide) (by decide) rfl rfl rfl (ev_lst (ev_acons ev_int ev_anil)) pe_int pe_int (fun _ _ => .int _) (fun _ _ => .int _) (by rfl))
  (sv_cons (sv_for (S := [5, 6]) (by exact passes_of rfl) rfl (iv_seq (ev_var (pv 0))) (gv_tup rfl (gv_cons (gv_name (i := 5) sc_q_item_value.nd rfl (.inl rfl)) (gv_cons (gv_name (i := 6) sc_q_item_value.nd rfl (.inl rfl)) gv_nil))) (sv_cons (sv_par (i := 3) (j := 4) rfl sc_q_item_value.nd rfl rfl (by decide) rfl rfl (ev_bin opD_add (ev_var (pv 3)) (ev_var (pv 5))) (ev_bin opD_add (ev_var (pv 4)) (ev_bin opD_mul (ev_var (pv 5)) (ev_var (pv 6)))) (by rfl))
  (sv_one (sv_expr (ev_append (pv 2) (ev_acons (ev_bin opD_sub (ev_var (pv 4)) (ev_bin opD_mul (ev_var (pv 1)) (ev_var (pv 3)))) ev_anil))))))
  (sv_one (sv_ret (ev_callB (cD_max rfl) (by rfl) T.m_max (by decide +kernel) (ev_acons (ev_var (pv 2)) ev_anil))))))

theorem G_q_price_bound (T : Txt K mg) : FnOk P w K mg base (L2.CX P w) 2 T.a_q_price_bound T.d_q_price_bound p_q_price_bound (spF (Zdk Dx ca) 2 FF_q_price_bound) :=
  fn_body (Z := (Zdk Dx ca)) (b := fb_q_price_bound) T.F_q_price_bound sc_q_price_bound (by decide) (fun _ _ _ h => h) fun cdv A outer s H E C hr tk => 
  (sv_cons (sv_if (PW.pt (ew_or (et_not (et_val (ev_callB cD_isi (by rfl) T.m_isinstance (by decide +kernel) (ev_acons (ev_var (pv 1)) (ev_acons (ev_con (pe_bltn (v := .ty "tuple") (by rfl) T.m_tuple (by decide +kernel) rfl) (fun _ _ => .ty _)) ev_anil))))) (ew_or1 (et_cmp (opD_ne hr.units) (ev_callB cD_len (by rfl) T.m_len PySem.boot_len (ev_acons (ev_var (pv 1)) ev_anil)) (ev_callB cD_len (by rfl) T.m_len PySem.boot_len (ev_acons (ev_ix ixR (ev_var (pv 0)) ev_int (fun _ _ => rfl)) ev_anil)) (nomark _))))) (sv_one (sv_ret ev_non)) sv_nil)
  (sv_cons (sv_if (et_cmp (opD_ne hr.units) (ev_lc (own := [("_law_price", 2)]) (S := [2]) (sh := []) rfl sc_q_price_bound.nd (iv_seq (ev_var (pv 1))) (blkOk_by (own := [("_law_price", 2)]) (N := n_q_price_bound) (sc := defScope s_q_price_bound) (by decide +kernel)) (fun C hw s H A cl fp => (gv_name (i := 2) sc_q_price_bound.nd rfl (.inl rfl))) (fun s H A cl fp => ex_one fun C hw => (PW.pt (ew_or (et_not (et_val (ev_call (G_q_whole T) (fun _ _ _ => len_q_whole) (takes_dead hw) (hr.mono (by omega)) (by rfl) T.g_q_whole T.F_q_whole.kp T.b_q_whole (ev_acons (ev_var (pv 2)) ev_anil)))) (ew_or1 (et_not (et_chain opD_lt opD_lt (ev_un unD_neg (ev_bin opD_pow ev_int ev_int)) (ev_var (pv 2)) (ev_bin opD_pow ev_int ev_int))))))) (fun C hw s H A cl fp => (ev_var (pv 2)))) (ev_lst ev_anil) (nomark _)) (sv_one (sv_ret ev_non)) sv_nil)
  (sv_cons (sv_set (i := 3) sc_q_price_bound.nd rfl (.inl rfl) ev_int)
  (sv_cons (sv_for (S := [4, 5]) (by exact passes_of rfl) rfl (iv_enum (by rfl) T.m_enumerate (ev_acons (ev_ix ixR (ev_var (pv 0)) ev_int (fun _ _ => rfl)) ev_anil)) (gv_tup rfl (gv_cons (gv_name (i := 4) sc_q_price_bound.nd rfl (.inl rfl)) (gv_cons (gv_name (i := 5) sc_q_price_bound.nd rfl (.inl rfl)) gv_nil))) (sv_one (sv_set (i := 3) sc_q_price_bound.nd rfl (.inl rfl) (ev_bin opD_add (ev_var (pv 3)) (ev_call (G_q_item_value T) (fun _ _ _ => len_q_item_value) tk (hr.mono (by omega)) (by rfl) T.g_q_item_value T.F_q_item_value.kp T.b_q_item_value (ev_acons (ev_var (pv 5)) (ev_acons (ev_call (G_q_item_price T) (fun _ _ _ => len_q_item_price) tk (hr.mono (by omega)) (by rfl) T.g_q_item_price T.F_q_item_price.kp T.b_q_item_price (ev_acons (ev_var (pv 0)) (ev_acons (ev_var (pv 1)) (ev_acons (ev_var (pv 4)) ev_anil)))) ev_anil)))))))
  (sv_cons (sv_for (S := [2, 6]) (by exact passes_of rfl) rfl (iv_zip (by rfl) T.m_zip (ev_acons (ev_var (pv 1)) (ev_acons (ev_ix ixR (ev_var (pv 0)) ev_int (fun _ _ => rfl)) ev_anil))) (gv_tup rfl (gv_cons (gv_name (i := 2) sc_q_price_bound.nd rfl (.inl rfl)) (gv_cons (gv_name (i := 6) sc_q_price_bound.nd rfl (.inl rfl)) gv_nil))) (sv_one (sv_set (i := 3) sc_q_price_bound.nd rfl (.inl rfl) (ev_bin opD_add (ev_var (pv 3)) (ev_callB (cD_max2 rfl) (by rfl) T.m_max (by decide +kernel) (ev_acons (ev_bin opD_mul (ev_var (pv 2)) (ev_ix ixR (ev_var (pv 6)) ev_int (fun _ _ => rfl))) (ev_acons (ev_bin opD_mul (ev_var (pv 2)) (ev_ix ixR (ev_var (pv 6)) ev_int (fun _ _ => rfl))) ev_anil)))))))
  (sv_one (sv_ret (ev_var (pv 3)))))))))

theorem G_q_values (T : Txt K mg) : FnOk P w K mg base (L2.CX P w) 15 T.a_q_values T.d_q_values p_q_values (spF (Zdk Dx ca) 2 FF_q_values) :=
  fn_body (Z := (Zdk Dx ca)) (b := fb_q_values) T.F_q_values sc_q_values (by decide) (fun _ _ _ h => h) fun cdv A outer s H E C hr tk => 
  (sv_cons (sv_set (i := 2) sc_q_values.nd rfl (.inl rfl) (ev_callTy cD_tuple (by rfl) T.m_tuple (by decide +kernel) (ev_acons (ev_lc (own := [("_law_k", 6)]) (S := [6]) (sh := [0]) rfl sc_q_values.nd (iv_range1 (by rfl) T.m_range (ev_acons (ev_var (pv 1)) ev_anil)) (blkOk_by (own := [("_law_k", 6)]) (N := n_q_values) (sc := defScope s_q_values) (by decide +kernel)) (fun C hw s H A cl fp => (gv_name (i := 6) sc_q_values.nd rfl (.inl rfl))) (fun _ _ _ _ _ => ex_yes) (fun C hw s H A cl fp => (ev_bin opD_sub (ev_call (G_q_next T) (fun _ _ _ => len_q_next) (takes_dead hw) (hr.mono (by omega)) (by rfl) T.g_q_next T.F_q_next.kp T.b_q_next (ev_acons (ev_var (pv 0)) (ev_acons ev_int ev_anil))) ev_int))) ev_anil)))
  (sv_cons (sv_set (i := 3) sc_q_values.nd rfl (.inl rfl) (ev_callTy cD_tuple (by rfl) T.m_tuple (by decide +kernel) (ev_acons (ev_lc (own := [("_law_k", 6)]) (S := [6]) (sh := [0]) rfl sc_q_values.nd (iv_range1 (by rfl) T.m_range (ev_acons (ev_var (pv 1)) ev_anil)) (blkOk_by (own := [("_law_k", 6)]) (N := n_q_values) (sc := defScope s_q_values) (by decide +kernel)) (fun C hw s H A cl fp => (gv_name (i := 6) sc_q_values.nd rfl (.inl rfl))) (fun _ _ _ _ _ => ex_yes) (fun C hw s H A cl fp => (ev_call (G_q_one T) (fun _ _ _ => len_q_one) (takes_dead hw) (hr.mono (by omega)) (by rfl) T.g_q_one T.F_q_one.kp T.b_q_one (ev_acons (ev_var (pv 0)) (ev_acons (ev_lst (ev_acons (ev_bin opD_sub (ev_bin opD_pow ev_int ev_int) ev_int) (ev_acons (ev_bin opD_sub ev_int (ev_bin opD_pow ev_int ev_int)) (ev_acons ev_int (ev_acons (ev_bin opD_pow ev_int ev_int) ev_anil))))) ev_anil))))) ev_anil)))
  (sv_cons (sv_set (i := 4) sc_q_values.nd rfl (.inl rfl) (ev_lst (ev_acons (ev_var (pv 2)) (ev_acons (ev_var (pv 3)) (ev_acons (ev_bin opD_add (ev_var (pv 2)) (ev_tup (ev_acons ev_int ev_anil))) (ev_acons (ev_slice (ev_var (pv 2)) (pd_some ev_int) pd_no) (ev_acons (ev_callTy cD_list (by rfl) T.m_list (by decide +kernel) (ev_acons (ev_var (pv 2)) ev_anil)) (ev_acons (ev_bin opD_mul (ev_tup (ev_acons (ev_bin opD_pow ev_int ev_int) ev_anil)) (ev_var (pv 1))) (ev_acons (ev_bin opD_mul (ev_tup (ev_acons (ev_un unD_neg (ev_bin opD_pow ev_int ev_int)) ev_anil)) (ev_var (pv 1))) (ev_acons (ev_bin opD_mul (ev_tup (ev_acons ev_int ev_anil)) (ev_var (pv 1))) ev_anil))))))))))
  (sv_cons (sv_set (i := 5) sc_q_values.nd rfl (.inl rfl) (ev_call (G_q_bent T) (fun _ _ _ => len_q_bent) tk (hr.mono (by omega)) (by rfl) T.g_q_bent T.F_q_bent.kp T.b_q_bent (ev_acons (ev_var (pv 0)) (ev_acons (ev_var (pv 2)) (ev_acons ev_int ev_anil)))))
  (sv_one (sv_ret (ev_bin opD_add (ev_var (pv 4)) (ev_lst (ev_acons (ev_var (pv 5)) (ev_acons (ev_call (G_q_bent T) (fun _ _ _ => len_q_bent) tk (hr.mono (by omega)) (by rfl) T.g_q_bent T.F_q_bent.kp T.b_q_bent (ev_acons (ev_var (pv 0)) (ev_acons (ev_var (pv 5)) (ev_acons ev_int ev_anil)))) (ev_acons (ev_bin opD_mul (ev_tup (ev_acons ev_bl ev_anil)) (ev_var (pv 1))) (ev_acons ev_non (ev_acons (ev_call (G_q_odd T) (fun _ _ _ => len_q_odd) tk (hr.mono (by omega)) (by rfl) T.g_q_odd T.F_q_odd.kp T.b_q_odd (ev_acons (ev_var (pv 0)) ev_anil)) ev_anil)))))))))))))

end
end FD

/-! F19: the end of a law. -/
namespace FD
open PySem PySem.Spec PyProof.Rows L2
/-- as FnOk, where it is called with no guard around -/
def FnG (P : Program) (w : World) (K : PySem.W.Frag) (mg : Str → Option Value) (base : Heap) (CX : CXT) (k : Nat) (f : Addr) (fd : FuncData) (ps : List Str) (sp : Sp) : Prop :=
  ∀ (B : Around) (outer : List Env) (s : Shared) (H : Hp) (args : Args) (us : List Value) (vs : List V) (Q : VK) (E : XK), B.guards = some [] → Room k B → Env0 P w K mg base B outer s H → BindsTo s fd args (ps.zip us) → Vals vs us → sp vs H Q E →
    codeAny (model P w) B (.call (.ref f) args) (CR CX outer P w H s Q E) s
theorem fun_okG {CX : CXT} {P : Program} {w : World} {K : PySem.W.Frag} {mg : Str → Option Value} {base : Heap} {x qual : Str} {st : Stmt} {f : Addr} {fd : FuncData} {N ps : List Str} {k : Nat} {sp : Sp} (F : Fun K x qual st f fd) (S : FnScope N ps (defScope st))
    (len : ∀ vs H Q E, sp vs H Q E → vs.length = ps.length)
    (body : ∀ (cdv : Value) (B : Around) (outer : List Env) (s : Shared) (H : Hp) (vs : List V) (Q : VK) (E : XK), B.guards = some [] → Room k (B.deeper (envOfC qual (defScope st) s.heap.objs.size f cdv)) → sp vs H Q E →
      ∃ t, PSs (cxOf CX P w K mg base N qual (defScope st) f cdv B outer s H E) (defBody st) t ∧ t { nx := fun _ H' => Q .non H', rt := Q } (start N vs) H) : FnG P w K mg base CX (k + 1) f fd ps sp := by
  intro B outer s H args us vs Q E gd hr env hb rel hsp
  obtain ⟨oc, od, kV, doc, pm, an, cdv, ct, osl, rfl, look, isCode⟩ := F.ex
  have many := len _ _ _ _ hsp
  have inK : K.In s.heap := env.mod.kin.keeps fun b o e => (env.bs b o e).1
  have noLim : s.heap.NoLimit := env.mod.nolimit.keeps fun b o e => (env.bs b o e).1
  have kinds : ∀ y ∈ ps.zip us, (defScope st).names.lookup y.1 = some .local ∨ ((defScope st).names.lookup y.1 = some .cell ∧ ((cellsFrom (s.heap.objs.size + 1) (defScope st).names []).lookup y.1).isSome = true) := by
    rintro ⟨n, v⟩ hy
    rcases S.par n (List.of_mem_zip hy).1 with q | q
    · exact .inl q
    · exact .inr ⟨q, PySem.W.cellsFrom_some _ _ _ (.inl q)⟩
  refine codeAny_call_function hr.depth (inK _ _ look) rfl S.co S.gen rfl (PySem.W.codeRec_of inK isCode) (hb _ _ _ _ (wpAny_newFunctionEnv_cells S.kind kinds ?_))
  intro env' he s1 ic
  subst he
  obtain ⟨t, derived, asked⟩ := body cdv B outer s H vs Q E gd (hr.deeper _) hsp
  have I : Inv (cxOf CX P w K mg base N qual (defScope st) f cdv B outer s H E) [] (start N vs) H s1 := inv_start S hr.hd env many rel ic
  refine ⟨noLim.keeps ic.toInCall.keep, codeAny_func (wpAny_mono (derived.run [] s1 (start N vs) H _ I asked) (fun fl s' end_ => ?_) fun e s' z => z)⟩
  cases fl with
  | ret u =>
    obtain ⟨v, σ', H', J, rv, q⟩ := end_
    exact ⟨v, H', J.os, J.bare, J.base, J.hok, rv, q⟩
  | next =>
    obtain ⟨σ', H', J, q⟩ := end_
    exact ⟨V.non, H', J.os, J.bare, J.base, J.hok, (rfl : RelV V.non Value.none), q⟩
  | brk => exact (end_.choose_spec.choose_spec.2 : False).elim
  | cont => exact (end_.choose_spec.choose_spec.2 : False).elim
/-- the law's own call, behind the top -/
theorem callG {P : Program} {w : World} {K : PySem.W.Frag} {mg mb : Str → Option Value} {CX : CXT} {k : Nat} {fa sc : Addr} {fd : FuncData} {x : Str} {sp : Sp} {s₁ : Shared} {us : List Value} {ns : List Int}
    (inK : K.In s₁.heap) (nsG : s₁.heap.Ns mainGlobals mg) (nsB : s₁.heap.Ns builtinsNs mb) (isB : ∀ x : Str, x ≠ "__name__" → mb x = bootBuiltins x) (noLim : s₁.heap.NoLimit) (noGen : s₁.gens = #[])
    (hsc : s₁.heap.get? sc = some { cls := .type "list", data := .seq us.toArray }) (hints : IntsAre us ns) (short : ns.length ≤ sizeLine) (room : Room k callerA)
    (F : ∀ base : Heap, K.In base → base.Ns mainGlobals mg → FnG P w K mg base CX k fa fd [x] sp) (hbind : ∀ (s : Shared) (u : Value), BindsTo s fd ⟨[u], []⟩ [(x, u)])
    (hsp : ∀ H : Hp, SqL K H sc (ns.map V.int) → sp [.ref sc] H (fun v _ => v = .bl true) fun _ _ _ => False) (noE : ∀ H e s', CX [] H s₁ (fun _ _ _ => False) e s' → False) :
    codeAny (model P w) callerA (.call (.ref fa) ⟨[.ref sc], []⟩) (fun r s' => r = .ok (.ret (.bool true)) ∧ OldK s₁.heap s'.heap ∧ s'.os = s₁.os ∧ AllBare s'.gens) s₁ := by
  have rel := vals_ints hints
  have same := hints.length
  -- H tracks at most the script, locked
  have main : ∀ H : Hp, (∀ b, H b = none ∨ (b = sc ∧ K.lookup sc = none ∧ ∃ o xs, H b = some (.frz o (.lst xs)))) → SqL K H sc (ns.map V.int) → HOk P w H s₁.heap →
      codeAny (model P w) callerA (.call (.ref fa) ⟨[.ref sc], []⟩) (fun r s' => r = .ok (.ret (.bool true)) ∧ OldK s₁.heap s'.heap ∧ s'.os = s₁.os ∧ AllBare s'.gens) s₁ := by
    intro H only held ok
    have low : ∀ {b : Addr} {o : Obj}, s₁.heap.get? b = some o → H b = none → (hidT s₁.heap H).get? b = some o := fun e n => hidT_get e n
    have notDict : ∀ {b : Addr} {o : Obj} {es : Array DictEntry} {ep : Nat}, s₁.heap.get? b = some o → o.data = .dict es ep → H b = none := by
      intro b o es ep e d
      rcases only b with z | ⟨z, _, _⟩
      · exact z
      · subst z
        rw [hsc] at e
        cases e
        cases (show Data.seq us.toArray _ = Data.dict es ep from d)
    have nsLow : ∀ {b : Addr} {m : Str → Option Value}, s₁.heap.Ns b m → (hidT s₁.heap H).Ns b m := by
      rintro b m ⟨o, es, ep, e, d, r⟩
      exact ⟨o, es, ep, low e (notDict e d), d, r⟩
    have inLow : K.In (hidT s₁.heap H) := by
      intro b o e
      refine low (inK b o e) ?_
      rcases only b with z | ⟨z, n, _⟩
      · exact z
      · subst z
        rw [n] at e
        cases e
    have md : Mod K mg (hidT s₁.heap H) := ⟨inLow, nsLow nsG, ⟨mb, nsLow nsB, isB⟩, let ⟨mc, q1, q2⟩ := noLim; ⟨mc, nsLow q1, q2⟩⟩
    have env : Env0 P w K mg (hidT s₁.heap H) callerA [] s₁ H := ⟨rfl, md, fun b o e => of_hidT e, Nat.le_of_eq (hidT_size _ _), trivial, fun b hb => absurd (show b ∈ ([] : List Addr) from hb) (by simp), ok, .of_eq noGen⟩
    refine codeAny_mono (F _ inLow (nsLow nsG) callerA [] s₁ H ⟨[.ref sc], []⟩ [.ref sc] [.ref sc] _ _ rfl room env (hbind s₁ (.ref sc)) (.cons rfl .nil) (hsp H held)) ?_
    intro r s' h
    cases r with
    | error e => exact (noE H e s' h).elim
    | ok fl =>
      cases fl with
      | next => exact (h : False).elim
      | brk => exact (h : False).elim
      | cont => exact (h : False).elim
      | ret u =>
        obtain ⟨v, H', os, bare, un, ok', ru, q⟩ := h
        obtain rfl : v = .bl true := q
        obtain rfl : u = Value.bool true := ru
        refine ⟨rfl, OldK.of_keep fun b o e => ?_, os, bare⟩
        rcases only b with z | ⟨_, _, ob, xs, z⟩
        · exact un.keep b o e z (fun y => absurd (show b ∈ ([] : List Addr) from y) (by simp)) (by simp)
        · obtain ⟨e1, _⟩ := ok b _ z
          obtain ⟨e2, _⟩ := ok' b _ (un.frzs b ob _ z)
          rw [e] at e1
          cases e1
          exact e2
  cases hk : K.lookup sc with
  | some o =>
    have e := inK sc o hk
    rw [hsc] at e
    cases e
    exact main (fun _ => none) (fun _ => .inl rfl) (.inr ⟨_, us.toArray, _, hk, rfl, rfl, rfl, by rw [List.size_toArray, same]; exact short, by simpa using rel⟩) (fun b u z => by cases (show (none : Option HO) = some u from z))
  | none =>
    refine main (fun b => if b = sc then some (.frz { cls := .type "list", data := .seq us.toArray } (.lst (ns.map V.int))) else none) (fun b => ?_) (.inl (.inr ⟨{ cls := .type "list", data := .seq us.toArray }, if_pos rfl⟩)) (fun b u z => ?_)
    · by_cases hb : b = sc
      · exact .inr ⟨hb, hk, _, _, if_pos hb⟩
      · exact .inl (if_neg hb)
    · by_cases hb : b = sc
      · cases (if_pos hb).symm.trans z
        subst hb
        exact ⟨hsc, by rw [List.length_map]; exact short, us, _, rel, hsc⟩
      · cases (if_neg hb).symm.trans z
/-- the goal that k_head leaves -/
theorem walkG {l : PySem.W.OpenLaw} {n k : Nat} {q : Program} {loose : List Str} {XP : (Str → Option Value) → Heap → Prop} {YP : World → Heap → Prop} {d : DefRec} {K : Params → PySem.W.Frag} {CX : World → CXT} {sp : World → Sp} {x : Str}
    (most : l.most = some n) (fits : n ≤ sizeLine) (plain : d.params.defaults = []) (room : Room k callerA) (inK : ∀ (w : World) (h : Heap), YP w h → (K w.params).In h)
    (F : ∀ (w : World) (mg : Str → Option Value) (fa : Addr) (h : Heap), (K w.params).In h → h.Ns mainGlobals mg → mg d.name = some (.ref fa) → ∃ fd : FuncData, (∀ (s : Shared) (u : Value), BindsTo s fd ⟨[u], []⟩ [(x, u)]) ∧
      ∀ base : Heap, (K w.params).In base → base.Ns mainGlobals mg → FnG l.prog w (K w.params) mg base (CX w) k fa fd [x] (sp w))
    (hsp : ∀ (w : World) (H : Hp) (a : Addr) (ns : List Int), ns.length ≤ n → SqL (K w.params) H a (ns.map V.int) → sp w [.ref a] H (fun v _ => v = .bl true) fun _ _ _ => False)
    (noE : ∀ (w : World) (H : Hp) (s : Shared) (e : Value) (s' : Shared), CX w [] H s (fun _ _ _ => False) e s' → False) : PySem.W.WalkO q loose XP YP l.row.toRowW d [] (fun f vs => PySem.call f vs) := by
  refine Att.attach_call most plain ?_
  intro w s₀ s₁ mg mb fa o pm cd doc a vs ns G Y ho hd hcd hmg hobj hints len gens
  have KX := inK w _ Y
  obtain ⟨fd, hb, hF⟩ := F w mg fa _ KX G.T.g hmg
  exact callG KX G.T.g G.T.b G.T.builtins G.T.nolimit gens hobj hints (Nat.le_trans len fits) room hF hb (fun H hS => hsp w H a ns len hS) fun H e s' => noE w H s₁ e s'
end FD

namespace FD
open PySem PySem.Spec PyProof.Rows L2
theorem noCX {P : Program} {w : World} (H : Hp) (s : Shared) (e : Value) (s' : Shared) (h : L2.CX P w [] H s (fun _ _ _ => False) e s') : False := by
  obtain ⟨_, _, _, _, _, _, _, _, _, _, _, _, z⟩ := h
  exact z
def sp_law (K : PySem.W.Frag) : Sp := fun vs H Q _ => ∃ (a : Addr) (ns : List Int), vs = [.ref a] ∧ SqL K H a (ns.map V.int) ∧ ns.length ≤ 63 ∧ ∀ H', Q (.bl true) H'
def sp_q_deck (K : PySem.W.Frag) : Sp := fun vs H Q _ => ∃ (a : Addr) (ns : List Int), vs = [.ref a] ∧ SqL K H a (ns.map V.int) ∧ ns.length ≤ 63 ∧
  ∀ (H' : Hp) (D : Dk) (big cells : List Int), Same H H' → H D.a = none → H D.l1 = none → H D.l2 = none → D.At H' 0 big cells → Q (.ref D.a) H'
theorem same_new {H : Hp} {p : Addr} {o : HO} (h : H p = none) : Same H (upd H p o) := fun b x e => upd_keep h e
theorem same_set {H H' : Hp} {p : Addr} {o : HO} (k : Same H H') (h : H p = none) : Same H (upd H' p o) := fun b x e => by
  rw [upd_ne (ne_of_none e h)]
  exact k b x e
def absI (n : Int) : Int := if n < 0 then -n else n
def bigs (ns : List Int) : List Int := ns.filter fun n => decide ((1000000000000000000 : Int) ≤ n)
theorem bigs_take {ns : List Int} {i : Nat} {n : Int} (h : ns[i]? = some n) : bigs (ns.take (i + 1)) = bigs (ns.take i) ++ (if (1000000000000000000 : Int) ≤ n then [n] else []) := by
  unfold bigs
  rw [List.take_add_one, h, List.filter_append]
  by_cases c : (1000000000000000000 : Int) ≤ n
  · simp [c]
  · simp [c]
theorem small1000 {n : Nat} (h : n ≤ 1000) : n < sizeLine := by rw [sizeLine_eq]; omega
theorem line63 {n : Nat} (h : n ≤ 1000) : n < sizeLine := small1000 h
theorem le_line {n : Nat} (h : n ≤ 1000) : n ≤ sizeLine := Nat.le_of_lt (small1000 h)
/-- the first state behind the deck -/
def lawS (n : Nat) : List Sl := .no :: .v (.hnd 0) :: List.replicate (n - 2) .no
/-- behind the deck: the rest of the law, by data -/
theorem law_rest {D : Dk} {ca : Str → Addr} {f : SF DS} {n : Nat} {H : Hp} {σ : L2.St} {big cells : List Int} {Q : VK} {C : Fx (Zdk D ca)}
    (hC : C = ⟨(Zdk D ca).hid, H, dead, noEv⟩) (hn : 2 ≤ n) (hl : σ.length = n) (h1 : σ[1]? = some (some (.ref D.a))) (at_ : D.At H 0 big cells) (q : ∀ H', Q (.bl true) H')
    (pure_ : ∀ t : DS, t.c = 0 → ∃ s', f (lawS n, t) = some (.rt (.d (.bl true)), s')) : tS C f { nx := fun _ H' => Q .non H', rt := Q } σ H := by
  subst hC
  obtain ⟨s', e⟩ := pure_ ⟨0, big, cells⟩ rfl
  refine ⟨fun _ => none, lawS n, ⟨0, big, cells⟩, ?_, rfl, _, s', e, fun ow' σ' v H' R r x => ?_⟩
  · refine ⟨at_, fun a h => h, fun a h => (Zdk D ca).trk ⟨0, big, cells⟩ H a at_ h, fun _ _ e _ => e, ?_, fun i s h => ?_, fun _ _ _ z => (nomatch z), fun _ _ z => (nomatch z)⟩
    · unfold lawS
      simp only [List.length_cons, List.length_replicate]
      omega
    · match i, h with
      | 0, h => cases h; trivial
      | 1, h => cases h; exact ⟨_, h1, .hnd (Z := Zdk D ca) 0⟩
      | i + 2, h =>
        unfold lawS at h
        simp only [List.getElem?_cons_succ] at h
        rw [List.getElem?_replicate] at h
        split at h
        · cases h; trivial
        · cases h
  · rw [(Shows.den r.2).bl]
    exact q H'
theorem ex_S {X : Cx} {f : SF DS} {st : List Stmt} {ca0 : Str → Addr} (h : ∀ (Dx : Dk) (C : Fx (Zdk Dx ca0)), C.W = dead → PSs X st (tS C f)) :
    PSs X st (fun E σ H => ∃ (Dx : Dk) (C : Fx (Zdk Dx ca0)), C.W = dead ∧ tS C f E σ H) := ⟨fun pins s σ H E I ⟨Dx, C, w, q⟩ => (h Dx C w).run pins s σ H E I q⟩
end FD

set_option maxHeartbeats 4000000
namespace FD
open PySem PySem.Spec PyProof.Rows L2
section
variable {P : Program} {w : World} {K : PySem.W.Frag} {mg : Str → Option Value} {base : Heap}
theorem ok_q_deck (T : Txt K mg) : FnOk P w K mg base CX0 1 T.a_q_deck T.d_q_deck p_q_deck (sp_q_deck K) := by
  refine T.F_q_deck.ok sc_q_deck (fun vs H Q E h => ?_) (fun cdv A outer s H vs Q E hr h => ?_)
  · obtain ⟨a, ns, rfl, _⟩ := h
    rfl
  · obtain ⟨a, ns, rfl, hS, hl, q⟩ := h
    refine ⟨_, (pss_cons (ps_setLc (i := 1) (own := [("_law_cell", 2)]) (g := (gName 2)) (tt := tYes) rfl sc_q_deck.nd rfl rfl (sw_true rfl rfl rfl (by decide +kernel)) (pi_list (pv 0)) (blkOk_by (own := [("_law_cell", 2)]) (N := n_q_deck) (sc := defScope s_q_deck) (by decide +kernel)) (fun _ _ _ _ _ => (pg_name (i := 2) sc_q_deck.nd rfl (.inl rfl))) (fun _ _ _ _ _ => pts_nil) (fun _ _ _ _ _ => (pe_callB call_abs (by rfl) T.m_abs (by decide +kernel) (pa_cons (pv 2) pa_nil))))
(pss_one (ps_ret (pe_lst (pa_cons (pe_lc (own := [("_law_cell", 2)]) (g := (gName 2)) (tt := _) rfl sc_q_deck.nd (pi_list (pv 1)) (blkOk_by (own := [("_law_cell", 2)]) (N := n_q_deck) (sc := defScope s_q_deck) (by decide +kernel)) (fun _ _ _ _ _ => (pg_name (i := 2) sc_q_deck.nd rfl (.inl rfl))) (fun _ _ _ _ _ => pts_one (pt_cmpR op_ge (pv 2) (pe_op op_pow pe_int pe_int) (nomark _))) (fun _ _ _ _ _ => (pv 2))) (pa_cons (pe_op op_cat (pv 1) (pe_lst (pa_cons (pe_op op_add (pe_callB (call_len_seq) (by rfl) T.m_len PySem.boot_len (pa_cons (pv 1) pa_nil)) pe_int) pa_nil))) (pa_cons pe_int pa_nil))))))), ?_⟩
    refine ⟨.ref a, rfl, a, rfl, ⟨_, hS⟩, fun C nC => lc_list (K := K) (a := a) (xs := ns.map V.int) (fun i H' => Same H H' ∧ H' C = some (.lst (((ns.take i).map absI).map V.int)))
      ⟨same_new nC, upd_same⟩ (fun i H' _ h => h.1.seq hS) (fun i x H' hx hp => ?_) (fun H1 hp => ?_)⟩
    · obtain ⟨sm, eC⟩ := hp
      rw [List.getElem?_map] at hx
      cases e : ns[i]? with
      | none => rw [e] at hx; cases hx
      | some n =>
        rw [e] at hx
        cases hx
        refine ⟨rfl, ⟨_, rfl, n, rfl, _, eC, ?_, same_set sm nC, ?_⟩⟩
        · rw [List.length_map, List.length_map, List.length_take]
          exact small1000 (by omega)
        · rw [upd_same, List.take_add_one, e, List.map_append, List.map_append]
          rfl
    · obtain ⟨sm, eC⟩ := hp
      rw [List.length_map] at eC
      rw [List.take_length] at eC
      have hC : SqL K H1 C ((ns.map absI).map V.int) := .inl (.inl eC)
      refine ⟨_, rfl, C, rfl, ⟨_, hC⟩, fun B nB => lc_list (K := K) (a := C) (xs := (ns.map absI).map V.int) (fun i H' => Same H1 H' ∧ H' B = some (.lst ((bigs ((ns.map absI).take i)).map V.int)))
        ⟨same_new nB, upd_same⟩ (fun i H' _ h => h.1.seq hC) (fun i x H' hx hp => ?_) (fun H2 hp => ?_)⟩
      · obtain ⟨sm1, eB⟩ := hp
        rw [List.getElem?_map] at hx
        cases e : (ns.map absI)[i]? with
        | none => rw [e] at hx; cases hx
        | some n =>
          rw [e] at hx
          cases hx
          refine ⟨rfl, _, rfl, _, _, rfl, rfl, ⟨by decide, by decide, by decide⟩, _, _, rfl, rfl, _, rfl, ite2 (fun c => ?_) (fun c => ?_)⟩
          · have c' : (1000000000000000000 : Int) ≤ n := of_decide_eq_true c
            refine ⟨_, rfl, _, eB, ?_, same_set sm1 nB, ?_⟩
            · rw [List.length_map]
              have := List.length_filter_le (fun n => decide ((1000000000000000000 : Int) ≤ n)) ((ns.map absI).take i)
              rw [List.length_take, List.length_map] at this
              exact small1000 (by unfold bigs; omega)
            · rw [upd_same, bigs_take e, if_pos c', List.map_append]
              rfl
          · have c' : ¬ (1000000000000000000 : Int) ≤ n := fun z => c (decide_eq_true z)
            refine ⟨sm1, ?_⟩
            rw [bigs_take e, if_neg c', List.append_nil]
            exact eB
      · obtain ⟨sm1, eB⟩ := hp
        have nCB : C ≠ B := ne_of_none eC nB
        refine ⟨_, rfl, _, rfl, C, _, rfl, .inl (sm1.seq hC), _, _, rfl, rfl, le_line (by simp), fun p np => ?_⟩
        refine ⟨C, p, _, _, rfl, rfl, by rw [upd_ne (ne_of_none (sm1 _ _ eC) np)]; exact sm1 _ _ eC, upd_same, ?_, fun r nr => ⟨le_line (by simp), fun D nD => ?_⟩⟩
        · rw [List.length_map, List.length_map]
          exact Nat.le_of_lt (small1000 (by show ns.length + 1 ≤ 1000; omega))
        · have sA : Same H (upd (upd (upd H2 p (.lst [V.int (((ns.map absI).map V.int).length + 3)])) r (.lst ((ns.map absI).map V.int ++ [V.int (((ns.map absI).map V.int).length + 3)]))) D (.lst [.ref B, .ref r, .int 0])) :=
            ((sm.trans sm1).trans (same_new np)).trans ((same_new nr).trans (same_new nD))
          have eBp : (upd H2 p (.lst [V.int (((ns.map absI).map V.int).length + 3)])) B = some (.lst ((bigs (((ns.map absI)).take ((ns.map absI).map V.int).length)).map V.int)) := upd_keep np eB
          have hDB : D ≠ B := (ne_of_none (upd_keep nr eBp) nD).symm
          have hrB : r ≠ B := (ne_of_none eBp nr).symm
          have hDr : D ≠ r := fun z => by
            rw [z, upd_same] at nD
            cases nD
          have nr0 : H r = none := Same.free ((sm.trans sm1).trans (same_new np)) nr
          have nD0 : H D = none := Same.free (((sm.trans sm1).trans (same_new np)).trans (same_new nr)) nD
          have nB0 : H B = none := Same.free sm nB
          refine q _ ⟨D, B, r⟩ (bigs ((ns.map absI).take ((ns.map absI).map V.int).length)) (ns.map absI ++ [((((ns.map absI).map V.int).length : Nat) : Int) + 3]) sA nD0 nB0 nr0 ⟨?_, ?_, ?_, ?_, hDB, hDr, hrB⟩
          · rw [upd_same]
            rfl
          · rw [upd_ne hDB.symm]
            exact upd_keep nr eBp
          · rw [upd_ne hDr.symm, upd_same, List.map_append]
            rfl
          · rw [List.length_append]
            show 0 < _ + 1
            omega


theorem ok_law (T : Txt K mg) (ca : Str → Addr) (pure_ : ∀ t : DS, t.c = 0 → ∃ s', fb_law (lawS 6, t) = some (.rt (.d (.bl true)), s')) : FnG P w K mg base (L2.CX P w) 16 T.a_law T.d_law p_law (sp_law K) := by
  refine fun_okG T.F_law sc_law (fun vs H Q E h => ?_) fun cdv B outer s H vs Q E hB hr h => ?_
  · obtain ⟨a, ns, rfl, _⟩ := h
    rfl
  obtain ⟨a, ns, rfl, hS, hl, q⟩ := h
  have hG : (cxOf (L2.CX P w) P w K mg base n_law "law" (defScope s_law) T.a_law cdv B outer s H E).A.guards = some [] := hB
  refine ⟨_, pss_cons (ps_set (i := 1) sc_law.nd rfl (.inl rfl) (pe_call (ok_q_deck T) (hr.mono (by omega)) (by rfl) T.g_q_deck T.F_q_deck.kp T.b_q_deck .nil pass0 (pa_cons (pv 0) pa_nil))) (ex_S (f := fb_law) (ca0 := ca) fun Dx C hw => ?rest), ?_⟩
  case rest =>
    have tk := fun {X : Cx} => takes_dead (X := X) hw
    exact (sv_cons (sv_for (S := [2]) (by exact passes_of rfl) rfl (iv_range1 (by rfl) T.m_range (ev_acons ev_int ev_anil)) (gv_name (i := 2) sc_law.nd rfl (.inl rfl)) (sv_cons (sv_set (i := 3) sc_law.nd rfl (.inl rfl) (ev_call (G_q_system T) (fun _ _ _ => len_q_system) tk (hr.mono (by omega)) (by rfl) T.g_q_system T.F_q_system.kp T.b_q_system (ev_acons (ev_var (pv 1)) (ev_acons (ev_call (G_q_great T) (fun _ _ _ => len_q_great) tk (hr.mono (by omega)) (by rfl) T.g_q_great T.F_q_great.kp T.b_q_great (ev_acons (ev_var (pv 1)) ev_anil)) (ev_acons ev_int (ev_acons ev_int ev_anil))))))
  (sv_one (sv_for (S := [4]) (by exact passes_of rfl) rfl (iv_seq (ev_call (G_q_values T) (fun _ _ _ => len_q_values) tk (hr.mono (by omega)) (by rfl) T.g_q_values T.F_q_values.kp T.b_q_values (ev_acons (ev_var (pv 1)) (ev_acons (ev_callB cD_len (by rfl) T.m_len PySem.boot_len (ev_acons (ev_ix ixR (ev_var (pv 3)) ev_int (fun _ _ => rfl)) ev_anil)) ev_anil)))) (gv_name (i := 4) sc_law.nd rfl (.inl rfl)) (sv_cons (sv_set (i := 5) sc_law.nd rfl (.inl rfl) (ev_callB (cD_repr hG hr.units) (by rfl) T.m_repr (by decide +kernel) (ev_acons (ev_lst (ev_acons (ev_var (pv 3)) (ev_acons (ev_var (pv 4)) ev_anil))) ev_anil)))
  (sv_cons (sv_if (et_not (et_val (ev_call (G_q_same T) (fun _ _ _ => len_q_same) tk (hr.mono (by omega)) (by rfl) T.g_q_same T.F_q_same.kp T.b_q_same (ev_acons (ev_call (G_price_bound T) (fun _ _ _ => len_price_bound) tk (hr.mono (by omega)) (by rfl) T.g_price_bound T.F_price_bound.kp T.b_price_bound (ev_acons (ev_var (pv 3)) (ev_acons (ev_var (pv 4)) ev_anil))) (ev_acons (ev_call (G_q_price_bound T) (fun _ _ _ => len_q_price_bound) tk (hr.mono (by omega)) (by rfl) T.g_q_price_bound T.F_q_price_bound.kp T.b_q_price_bound (ev_acons (ev_var (pv 3)) (ev_acons (ev_var (pv 4)) ev_anil))) ev_anil))))) (sv_one (sv_ret ev_bl)) sv_nil)
  (sv_one (sv_if (et_cmp (opD_ne hr.units) (ev_callB (cD_repr hG hr.units) (by rfl) T.m_repr (by decide +kernel) (ev_acons (ev_lst (ev_acons (ev_var (pv 3)) (ev_acons (ev_var (pv 4)) ev_anil))) ev_anil)) (ev_var (pv 5)) (nomark _)) (sv_one (sv_ret ev_bl)) sv_nil))))))))
  (sv_one (sv_ret ev_bl)))
  refine ⟨_, rfl, a, ns, rfl, hS, hl, fun H' D big cells sm n1 n2 n3 at_ => ⟨D, ⟨(Zdk D ca).hid, H', dead, noEv⟩, rfl, law_rest (n := 6) rfl (by decide) rfl rfl at_ q pure_⟩⟩

end
end FD

namespace FD
open PySem PySem.Spec PyProof.Rows L2
theorem values_ok {n m : Nat} {t : DS} (hm : m ≤ 8) (hc : t.c + 500 < 2 ^ 40) :
    ∃ vs t', FF_q_values [.hnd n, .int (m : Int)] t = some (.ok (.lst vs) true, t') ∧ (∀ v ∈ vs, ord (10 ^ 59 + 2) 6 v = true ∧ blk v ≤ 1000) ∧ t'.c ≤ t.c + 60 := by
  have key : wF (FF_q_values [.hnd n, .int (m : Int)] t) fun o t' => ∃ vs, o = .ok (.lst vs) true ∧ (∀ v ∈ vs, ord (10 ^ 59 + 2) 6 v = true ∧ blk v ≤ 1000) ∧ t'.c ≤ t.c + 60 := by
    unfold FF_q_values fb_q_values
    simp only [fdA, List.map_cons, List.map_nil, List.length_cons, List.length_nil, List.cons_append, List.nil_append, List.replicate_succ, List.replicate_zero, Nat.zero_add, Nat.reduceAdd, Nat.reduceSub, Nat.sub_self, if_true, if_false, Bool.false_eq_true, Bool.not_true, Bool.not_false, reduceCtorEq, ite_true, ite_false, List.getElem?_cons_zero, List.getElem?_cons_succ, List.set_cons_zero, List.set_cons_succ, LEN, Nat.reduceLeDiff, Option.map_some, fvA, List.length_map, List.length_set, decide_true, decide_false, fhA, List.mem_cons, List.not_mem_nil, or_false, or_true, Nat.reduceEqDiff, Nat.succ_ne_self, fxA, fwA, fyA, and_true, true_and, imp_self, true_imp_iff, false_imp_iff, implies_true, v_rng1 (j := (m : Int)) (small_of (by omega))]
    refine ⟨by rw [rngL_len]; omega, w_lcI (fun i w => w.c ≤ t.c + i) (fun _ v => ∃ x : Int, v = .int x ∧ x.natAbs ≤ 10 ^ 30) (by simp) (fun i d w hd hw => ?_) (fun out w hl hp hw => ?_)⟩
    · have hi : i < (rngL 0 (m : Int)).length := (List.getElem?_eq_some_iff.mp hd).1
      rw [rngL_len] at hi
      have a0 := w.draw_in (m := 13) (by decide)
      have d0 : (w.step 13).c ≤ w.c + 1 := DS.step_c
      simp only [fdA, List.map_cons, List.map_nil, List.length_cons, List.length_nil, List.cons_append, List.nil_append, List.replicate_succ, List.replicate_zero, Nat.zero_add, Nat.reduceAdd, Nat.reduceSub, Nat.sub_self, if_true, if_false, Bool.false_eq_true, Bool.not_true, Bool.not_false, reduceCtorEq, ite_true, ite_false, List.getElem?_cons_zero, List.getElem?_cons_succ, List.set_cons_zero, List.set_cons_succ, LEN, Nat.reduceLeDiff, Option.map_some, fvA, List.length_map, List.length_set, decide_true, decide_false, fhA, List.mem_cons, List.not_mem_nil, or_false, or_true, Nat.reduceEqDiff, Nat.succ_ne_self, fxA, fwA, fyA, and_true, true_and, imp_self, true_imp_iff, false_imp_iff, implies_true, next_eq (n := n) (t := w) (m := 13) (by decide) (by decide) (by omega)]
      exact ⟨⟨_, rfl, by omega⟩, by omega⟩
    · rw [rngL_len] at hl hw
      obtain ⟨small, rfl, hs⟩ := list_of D.int hp
      simp only [List.length_map] at hl
      refine ⟨by rw [rngL_len]; omega, w_lcI (fun i w' => w'.c ≤ w.c + i) (fun _ v => ∃ x : Int, v = .int x ∧ x.natAbs ≤ 10 ^ 30) (by simp) (fun i d w' hd hw' => ?_) (fun out w' hl2 hp2 hw' => ?_)⟩
      · have hi : i < (rngL 0 (m : Int)).length := (List.getElem?_eq_some_iff.mp hd).1
        rw [rngL_len] at hi
        have a0 := w'.draw_in (m := 4) (by decide)
        have d0 : (w'.step 4).c ≤ w'.c + 1 := DS.step_c
        obtain ⟨x, hx, e⟩ := atI_ex (ds := [D.int (1000000000000000000000000000000 - 1), .int (1 - 1000000000000000000000000000000), .int 0, .int 1000000]) (i := w'.draw 4) a0.1 a0.2
        have o1 := one_eq (ds := [D.int (1000000000000000000000000000000 - 1), .int (1 - 1000000000000000000000000000000), .int 0, .int 1000000]) (t := w') (n := n) (by decide) (by decide) (by omega) e
        simp only [fdA, List.map_cons, List.map_nil, List.length_cons, List.length_nil, List.cons_append, List.nil_append, List.replicate_succ, List.replicate_zero, Nat.zero_add, Nat.reduceAdd, Nat.reduceSub, Nat.sub_self, if_true, if_false, Bool.false_eq_true, Bool.not_true, Bool.not_false, reduceCtorEq, ite_true, ite_false, List.getElem?_cons_zero, List.getElem?_cons_succ, List.set_cons_zero, List.set_cons_succ, LEN, Nat.reduceLeDiff, Option.map_some, fvA, List.length_map, List.length_set, decide_true, decide_false, fhA, List.mem_cons, List.not_mem_nil, or_false, or_true, Nat.reduceEqDiff, Nat.succ_ne_self, fxA, fwA, fyA, and_true, true_and, imp_self, true_imp_iff, false_imp_iff, implies_true, v_pow30, v_pow6, o1]
        refine ⟨?_, by have d1 : (w'.step ((4 : Nat) : Int)).c ≤ w'.c + 1 := DS.step_c; omega⟩
        simp only [List.mem_cons, List.not_mem_nil, or_false] at hx
        rcases hx with rfl | rfl | rfl | rfl <;> exact ⟨_, rfl, by decide⟩
      · rw [rngL_len] at hl2 hw'
        obtain ⟨great, rfl, hg⟩ := list_of D.int hp2
        simp only [List.length_map] at hl2
        have es : blk (D.tup (small.map D.int)) = small.length := tpI_blk
        have os : ord (10 ^ 59) 2 (D.tup (small.map D.int)) = true := ord_tup (ordA_map fun a h => ord_int (by have := hs a h; exact Nat.le_trans this (by decide)))
        have og : ord (10 ^ 59) 2 (D.tup (great.map D.int)) = true := ord_tup (ordA_map fun a h => ord_int (by have := hg a h; exact Nat.le_trans this (by decide)))
        have eg : blk (D.tup (great.map D.int)) = great.length := tpI_blk
        obtain ⟨once, t1, e1, r1, b1, c1⟩ := bent_ok (n := n) 12 2 (t := w') (by omega) os (by omega) (by omega) (by decide) (by omega) (by omega)
        obtain ⟨twice, t2, e2, r2, b2, c2⟩ := bent_ok (n := n) 12 2 (t := t1) (by omega) r1 (by omega) (by omega) (by decide) (by omega) (by omega)
        obtain ⟨od, e3, r3, b3⟩ := odd_ok (n := n) (t := t2) (by omega)
        have c3 : (t2.step 23).c ≤ t2.c + 1 := DS.step_c
        have rp : ∀ d : D, mulD (.tup [d]) (.int (m : Int)) = some (.tup (List.replicate m d), false) := fun d => by
          have := v_rep1 (d := d) (k := (m : Int)) (by omega) (by omega)
          rwa [Int.toNat_natCast] at this
        rw [show (((2 : Nat) : Int)) = 2 from rfl] at e1 e2
        simp only [fdA, List.map_cons, List.map_nil, List.length_cons, List.length_nil, List.cons_append, List.nil_append, List.replicate_succ, List.replicate_zero, Nat.zero_add, Nat.reduceAdd, Nat.reduceSub, Nat.sub_self, if_true, if_false, Bool.false_eq_true, Bool.not_true, Bool.not_false, reduceCtorEq, ite_true, ite_false, List.getElem?_cons_zero, List.getElem?_cons_succ, List.set_cons_zero, List.set_cons_succ, LEN, Nat.reduceLeDiff, Option.map_some, fvA, List.length_map, List.length_set, decide_true, decide_false, fhA, List.mem_cons, List.not_mem_nil, or_false, or_true, Nat.reduceEqDiff, Nat.succ_ne_self, fxA, fwA, fyA, and_true, true_and, imp_self, true_imp_iff, false_imp_iff, implies_true, v_catT (a := small.map D.int) (b := [D.int 0]) (by simp [LEN]; omega), v_pow30, v_neg, rp, FF_q_bent, e1, e2, e3, v_cat]
        refine ⟨_, rfl, fun v hv => ?_, by omega⟩
        have rep : ∀ (x : D), ord (10 ^ 59 + 2) 5 x = true → blk x ≤ 10 → ord (10 ^ 59 + 2) 6 (.tup (List.replicate m x)) = true ∧ blk (.tup (List.replicate m x)) ≤ 1000 := fun x ox bx => by
          refine ⟨ord_tup (ordA_iff.mpr fun d hd => by rw [(List.mem_replicate.mp hd).2]; exact ox), ?_⟩
          have := blkA_le (n := 10) (a := List.replicate m x) fun d hd => by rw [(List.mem_replicate.mp hd).2]; exact bx
          simp only [blk, List.length_replicate] at this ⊢
          omega
        have oi : ∀ i : Int, i.natAbs ≤ 10 ^ 30 → ord (10 ^ 59 + 2) 5 (.int i) = true := fun i h => ord_int (Nat.le_trans h (by decide))
        simp only [List.mem_cons, List.not_mem_nil, or_false, List.cons_append, List.nil_append] at hv
        rcases hv with rfl | rfl | rfl | rfl | rfl | rfl | rfl | rfl | rfl | rfl | rfl | rfl | rfl
        · exact ⟨ord_mono (by decide) (by decide) os, by omega⟩
        · exact ⟨ord_mono (by decide) (by decide) og, by omega⟩
        · refine ⟨ord_tup (ordA_map fun a h => oi a ?_), by rw [tpI_blk]; simp; omega⟩
          rcases List.mem_append.mp h with h | h
          · exact hs a h
          · rw [List.mem_singleton.mp h]; decide
        · refine ⟨ord_tup (cut_ord (ordA_map fun a h => oi a (hs a h))), ?_⟩
          have := cut_blk (ds := small.map D.int) (lo := some 1) (hi := none)
          simp only [blk] at es ⊢
          omega
        · exact ⟨ord_lst (ordA_map fun a h => oi a (hs a h)), by simp only [blk] at es ⊢; omega⟩
        · exact rep _ (oi _ (by decide)) (by simp [blk])
        · exact rep _ (oi _ (by decide)) (by simp [blk])
        · exact rep _ (oi _ (by decide)) (by simp [blk])
        · exact ⟨ord_mono (by decide) (by decide) r1, by omega⟩
        · exact ⟨ord_mono (by decide) (by decide) r2, by omega⟩
        · exact rep _ (by unfold ord; rfl) (by simp [blk])
        · exact ⟨by unfold ord; rfl, by simp [blk]⟩
        · exact ⟨ord_mono (by decide) (by decide) r3, by omega⟩
  obtain ⟨o, t', e, vs, rfl, h⟩ := key
  exact ⟨vs, t', e, h⟩
theorem pure_law : ∀ t : DS, t.c = 0 → ∃ s', fb_law (lawS 6, t) = some (.rt (.d (.bl true)), s') := by
  intro t ht
  have e0 : lawS 6 = [.no, .v (.hnd 0), .no, .no, .no, .no] := rfl
  have key : wS (fb_law (lawS 6, t)) fun o _ => o = .rt (.d (.bl true)) := by
    rw [e0]
    unfold fb_law
    simp only [fdA, List.map_cons, List.map_nil, List.length_cons, List.length_nil, List.cons_append, List.nil_append, List.replicate_succ, List.replicate_zero, Nat.zero_add, Nat.reduceAdd, Nat.reduceSub, Nat.sub_self, if_true, if_false, Bool.false_eq_true, Bool.not_true, Bool.not_false, reduceCtorEq, ite_true, ite_false, List.getElem?_cons_zero, List.getElem?_cons_succ, List.set_cons_zero, List.set_cons_succ, LEN, Nat.reduceLeDiff, Option.map_some, fvA, List.length_map, List.length_set, decide_true, decide_false, fhA, List.mem_cons, List.not_mem_nil, or_false, or_true, Nat.reduceEqDiff, Nat.succ_ne_self, fxA, fwA, fyA, and_true, true_and, imp_self, true_imp_iff, false_imp_iff, implies_true, v_rng1 (j := 8) (small_of (by decide))]
    refine w_for (fun k s => ∃ x2 x3 x4 x5, s.1 = [.no, .v (.hnd 0), x2, x3, x4, x5] ∧ s.2.c ≤ 10000 * k) ⟨_, _, _, _, rfl, by simp [ht]⟩ ?_ ?_
    · rintro i d ⟨τ, u⟩ hd ⟨x2, x3, x4, x5, rfl, hc⟩
      have hi : i < (rngL 0 8).length := (List.getElem?_eq_some_iff.mp hd).1
      rw [rngL_len] at hi
      dsimp only at hc
      obtain ⟨g, eg, g1, g2⟩ := great_ok (n := 0) (t := u) (by omega)
      have c0 : (u.step 4).c ≤ u.c + 1 := DS.step_c
      obtain ⟨s, u1, es, hv, _, _, c1⟩ := system_ok (n := 0) (great := g) (items := 6) (steps := 5) (t := u.step 4) g1 g2 (by decide) (by decide) (by decide) (by decide) (by omega)
      obtain ⟨vs, u2, ev, hvs, c2⟩ := values_ok (n := 0) (m := s.groups.length) (t := u1) hv.many (by omega)
      have ix1 : ixD (syD s) (.int 1) = some (.tup (s.groups.map grD), false) := v_ix_t at1
      obtain ⟨so, sb, sd⟩ := valid_ord hv
      simp only [fdA, List.map_cons, List.map_nil, List.length_cons, List.length_nil, List.cons_append, List.nil_append, List.replicate_succ, List.replicate_zero, Nat.zero_add, Nat.reduceAdd, Nat.reduceSub, Nat.sub_self, if_true, if_false, Bool.false_eq_true, Bool.not_true, Bool.not_false, reduceCtorEq, ite_true, ite_false, List.getElem?_cons_zero, List.getElem?_cons_succ, List.set_cons_zero, List.set_cons_succ, LEN, Nat.reduceLeDiff, Option.map_some, fvA, List.length_map, List.length_set, decide_true, decide_false, fhA, List.mem_cons, List.not_mem_nil, or_false, or_true, Nat.reduceEqDiff, Nat.succ_ne_self, fxA, fwA, fyA, and_true, true_and, imp_self, true_imp_iff, false_imp_iff, implies_true, eg, es, ix1, ev]
      refine w_forA vs (fun v => v) (by simp) (fun l s1 => ∃ x4 x5, s1.1 = [.no, .v (.hnd 0), .v d, .v (syD s), x4, x5] ∧ s1.2 = u2) ⟨_, _, rfl, rfl⟩ ?_ ?_
      · rintro l v r ⟨τ, w⟩ el ⟨x4, x5, rfl, rfl⟩
        obtain ⟨vo, vb⟩ := hvs v (by rw [el]; simp)
        obtain ⟨kept, qr⟩ := repr_lst (ds := [syD s, v]) (B := 10 ^ 59 + 2) (k := 6) (ordA_cons (ord_mono (by decide) (by decide) so) (ordA_cons vo ordA_nil)) (by decide) (by decide) (by simp only [blkA]; omega)
        have p1 := price_bound_eq (t := w) hv vo (by omega)
        have p2 := q_price_bound_eq (t := w) hv vo (by omega)
        by_cases e : pricesB s.groups.length v = true
        · obtain ⟨ps, ev', hl, hp⟩ := prices_int e
          have s1 := same_refl 0 (B := (boundOf s ps).natAbs) (d := .int (boundOf s ps)) (t := w) (ord_int (Nat.le_refl _)) rfl (by simp [blk]) (j := 12) (by decide)
          simp only [fdA, List.map_cons, List.map_nil, List.length_cons, List.length_nil, List.cons_append, List.nil_append, List.replicate_succ, List.replicate_zero, Nat.zero_add, Nat.reduceAdd, Nat.reduceSub, Nat.sub_self, if_true, if_false, Bool.false_eq_true, Bool.not_true, Bool.not_false, reduceCtorEq, ite_true, ite_false, List.getElem?_cons_zero, List.getElem?_cons_succ, List.set_cons_zero, List.set_cons_succ, LEN, Nat.reduceLeDiff, Option.map_some, fvA, List.length_map, List.length_set, decide_true, decide_false, fhA, List.mem_cons, List.not_mem_nil, or_false, or_true, Nat.reduceEqDiff, Nat.succ_ne_self, fxA, fwA, fyA, and_true, true_and, imp_self, true_imp_iff, false_imp_iff, implies_true, qr, p1.2 ps ev' e, p2.2 ps ev' e, FF_q_same, s1]
          exact ⟨_, _, rfl⟩
        · have e : pricesB s.groups.length v = false := by simpa using e
          have s1 := same_refl 0 (B := 1) (d := .non) (t := w) (by unfold ord; rfl) rfl (by simp [blk]) (j := 12) (by decide)
          simp only [fdA, List.map_cons, List.map_nil, List.length_cons, List.length_nil, List.cons_append, List.nil_append, List.replicate_succ, List.replicate_zero, Nat.zero_add, Nat.reduceAdd, Nat.reduceSub, Nat.sub_self, if_true, if_false, Bool.false_eq_true, Bool.not_true, Bool.not_false, reduceCtorEq, ite_true, ite_false, List.getElem?_cons_zero, List.getElem?_cons_succ, List.set_cons_zero, List.set_cons_succ, LEN, Nat.reduceLeDiff, Option.map_some, fvA, List.length_map, List.length_set, decide_true, decide_false, fhA, List.mem_cons, List.not_mem_nil, or_false, or_true, Nat.reduceEqDiff, Nat.succ_ne_self, fxA, fwA, fyA, and_true, true_and, imp_self, true_imp_iff, false_imp_iff, implies_true, qr, p1.1 e, p2.1 e, FF_q_same, s1]
          exact ⟨_, _, rfl⟩
      · rintro ⟨τ, w⟩ ⟨x4, x5, rfl, rfl⟩
        simp only [fdA, List.map_cons, List.map_nil, List.length_cons, List.length_nil, List.cons_append, List.nil_append, List.replicate_succ, List.replicate_zero, Nat.zero_add, Nat.reduceAdd, Nat.reduceSub, Nat.sub_self, if_true, if_false, Bool.false_eq_true, Bool.not_true, Bool.not_false, reduceCtorEq, ite_true, ite_false, List.getElem?_cons_zero, List.getElem?_cons_succ, List.set_cons_zero, List.set_cons_succ, LEN, Nat.reduceLeDiff, Option.map_some, fvA, List.length_map, List.length_set, decide_true, decide_false, fhA, List.mem_cons, List.not_mem_nil, or_false, or_true, Nat.reduceEqDiff, Nat.succ_ne_self, fxA, fwA, fyA, and_true, true_and, imp_self, true_imp_iff, false_imp_iff, implies_true]
        exact ⟨_, _, _, _, rfl, by dsimp only at c2; omega⟩
    · rintro ⟨τ, u⟩ ⟨x2, x3, x4, x5, rfl, hc⟩
      simp only [fdA, List.map_cons, List.map_nil, List.length_cons, List.length_nil, List.cons_append, List.nil_append, List.replicate_succ, List.replicate_zero, Nat.zero_add, Nat.reduceAdd, Nat.reduceSub, Nat.sub_self, if_true, if_false, Bool.false_eq_true, Bool.not_true, Bool.not_false, reduceCtorEq, ite_true, ite_false, List.getElem?_cons_zero, List.getElem?_cons_succ, List.set_cons_zero, List.set_cons_succ, LEN, Nat.reduceLeDiff, Option.map_some, fvA, List.length_map, List.length_set, decide_true, decide_false, fhA, List.mem_cons, List.not_mem_nil, or_false, or_true, Nat.reduceEqDiff, Nat.succ_ne_self, fxA, fwA, fyA, and_true, true_and, imp_self, true_imp_iff, false_imp_iff, implies_true]
  obtain ⟨o, s', e, rfl⟩ := key
  exact ⟨s', e⟩
end FD

namespace FD
open PySem PySem.Spec PyProof.Rows L2
theorem all_mk {P : Program} {w : World} {K : PySem.W.Frag} {h : Heap} {mg : Str → Option Value} {fa : Addr} (X : K.In h) (G : h.Ns mainGlobals mg) (hfa : mg "law" = some (.ref fa))
    {f0 : Addr} {od0 an0 : Option Addr} {sl0 : Array (Option Value)} {oc0 kV0 dc0 pm0 cd0 ct0 : Value}
    {f1 : Addr} {od1 an1 : Option Addr} {sl1 : Array (Option Value)} {oc1 kV1 dc1 pm1 cd1 ct1 : Value}
    {f2 : Addr} {od2 an2 : Option Addr} {sl2 : Array (Option Value)} {oc2 kV2 dc2 pm2 cd2 ct2 : Value}
    {f3 : Addr} {od3 an3 : Option Addr} {sl3 : Array (Option Value)} {oc3 kV3 dc3 pm3 cd3 ct3 : Value}
    {f4 : Addr} {od4 an4 : Option Addr} {sl4 : Array (Option Value)} {oc4 kV4 dc4 pm4 cd4 ct4 : Value}
    {f5 : Addr} {od5 an5 : Option Addr} {sl5 : Array (Option Value)} {oc5 kV5 dc5 pm5 cd5 ct5 : Value}
    {f6 : Addr} {od6 an6 : Option Addr} {sl6 : Array (Option Value)} {oc6 kV6 dc6 pm6 cd6 ct6 : Value}
    {f7 : Addr} {od7 an7 : Option Addr} {sl7 : Array (Option Value)} {oc7 kV7 dc7 pm7 cd7 ct7 : Value}
    {f8 : Addr} {od8 an8 : Option Addr} {sl8 : Array (Option Value)} {oc8 kV8 dc8 pm8 cd8 ct8 : Value}
    {f9 : Addr} {od9 an9 : Option Addr} {sl9 : Array (Option Value)} {oc9 kV9 dc9 pm9 cd9 ct9 : Value}
    {f10 : Addr} {od10 an10 : Option Addr} {sl10 : Array (Option Value)} {oc10 kV10 dc10 pm10 cd10 ct10 : Value}
    {f11 : Addr} {od11 an11 : Option Addr} {sl11 : Array (Option Value)} {oc11 kV11 dc11 pm11 cd11 ct11 : Value}
    {f12 : Addr} {od12 an12 : Option Addr} {sl12 : Array (Option Value)} {oc12 kV12 dc12 pm12 cd12 ct12 : Value}
    {f13 : Addr} {od13 an13 : Option Addr} {sl13 : Array (Option Value)} {oc13 kV13 dc13 pm13 cd13 ct13 : Value}
    {f14 : Addr} {od14 an14 : Option Addr} {sl14 : Array (Option Value)} {oc14 kV14 dc14 pm14 cd14 ct14 : Value}
    {f15 : Addr} {od15 an15 : Option Addr} {sl15 : Array (Option Value)} {oc15 kV15 dc15 pm15 cd15 ct15 : Value}
    {f16 : Addr} {od16 an16 : Option Addr} {sl16 : Array (Option Value)} {oc16 kV16 dc16 pm16 cd16 ct16 : Value}
    {f17 : Addr} {od17 an17 : Option Addr} {sl17 : Array (Option Value)} {oc17 kV17 dc17 pm17 cd17 ct17 : Value}
    {f18 : Addr} {od18 an18 : Option Addr} {sl18 : Array (Option Value)} {oc18 kV18 dc18 pm18 cd18 ct18 : Value}
    {f19 : Addr} {od19 an19 : Option Addr} {sl19 : Array (Option Value)} {oc19 kV19 dc19 pm19 cd19 ct19 : Value}
    {f20 : Addr} {od20 an20 : Option Addr} {sl20 : Array (Option Value)} {oc20 kV20 dc20 pm20 cd20 ct20 : Value}
    {f21 : Addr} {od21 an21 : Option Addr} {sl21 : Array (Option Value)} {oc21 kV21 dc21 pm21 cd21 ct21 : Value}
    {f22 : Addr} {od22 an22 : Option Addr} {sl22 : Array (Option Value)} {oc22 kV22 dc22 pm22 cd22 ct22 : Value}
    {f23 : Addr} {od23 an23 : Option Addr} {sl23 : Array (Option Value)} {oc23 kV23 dc23 pm23 cd23 ct23 : Value}
    (a0 : PySem.W.nsIn K mainGlobals "is_between" = some (some (.ref f0))) (l0 : K.lookup f0 = some ⟨oc0, od0, .func (PySem.W.fnOf "is_between" "is_between" (defArgs s_is_between) (defBody s_is_between) (defScope s_is_between) .none kV0 dc0 pm0 an0 cd0 ct0), sl0⟩) (c0 : PySem.W.codeIn K cd0 "is_between" = true) (k0 : PySem.W.keepIn K (.ref f0) = true)
    (a1 : PySem.W.nsIn K mainGlobals "is_tuple_of" = some (some (.ref f1))) (l1 : K.lookup f1 = some ⟨oc1, od1, .func (PySem.W.fnOf "is_tuple_of" "is_tuple_of" (defArgs s_is_tuple_of) (defBody s_is_tuple_of) (defScope s_is_tuple_of) .none kV1 dc1 pm1 an1 cd1 ct1), sl1⟩) (c1 : PySem.W.codeIn K cd1 "is_tuple_of" = true) (k1 : PySem.W.keepIn K (.ref f1) = true)
    (a2 : PySem.W.nsIn K mainGlobals "is_prices" = some (some (.ref f2))) (l2 : K.lookup f2 = some ⟨oc2, od2, .func (PySem.W.fnOf "is_prices" "is_prices" (defArgs s_is_prices) (defBody s_is_prices) (defScope s_is_prices) .none kV2 dc2 pm2 an2 cd2 ct2), sl2⟩) (c2 : PySem.W.codeIn K cd2 "is_prices" = true) (k2 : PySem.W.keepIn K (.ref f2) = true)
    (a3 : PySem.W.nsIn K mainGlobals "price_of_item" = some (some (.ref f3))) (l3 : K.lookup f3 = some ⟨oc3, od3, .func (PySem.W.fnOf "price_of_item" "price_of_item" (defArgs s_price_of_item) (defBody s_price_of_item) (defScope s_price_of_item) .none kV3 dc3 pm3 an3 cd3 ct3), sl3⟩) (c3 : PySem.W.codeIn K cd3 "price_of_item" = true) (k3 : PySem.W.keepIn K (.ref f3) = true)
    (a4 : PySem.W.nsIn K mainGlobals "gain_above" = some (some (.ref f4))) (l4 : K.lookup f4 = some ⟨oc4, od4, .func (PySem.W.fnOf "gain_above" "gain_above" (defArgs s_gain_above) (defBody s_gain_above) (defScope s_gain_above) .none kV4 dc4 pm4 an4 cd4 ct4), sl4⟩) (c4 : PySem.W.codeIn K cd4 "gain_above" = true) (k4 : PySem.W.keepIn K (.ref f4) = true)
    (a5 : PySem.W.nsIn K mainGlobals "price_bound" = some (some (.ref f5))) (l5 : K.lookup f5 = some ⟨oc5, od5, .func (PySem.W.fnOf "price_bound" "price_bound" (defArgs s_price_bound) (defBody s_price_bound) (defScope s_price_bound) .none kV5 dc5 pm5 an5 cd5 ct5), sl5⟩) (c5 : PySem.W.codeIn K cd5 "price_bound" = true) (k5 : PySem.W.keepIn K (.ref f5) = true)
    (a6 : PySem.W.nsIn K mainGlobals "_law_deck" = some (some (.ref f6))) (l6 : K.lookup f6 = some ⟨oc6, od6, .func (PySem.W.fnOf "_law_deck" "_law_deck" (defArgs s_q_deck) (defBody s_q_deck) (defScope s_q_deck) .none kV6 dc6 pm6 an6 cd6 ct6), sl6⟩) (c6 : PySem.W.codeIn K cd6 "_law_deck" = true) (k6 : PySem.W.keepIn K (.ref f6) = true)
    (a7 : PySem.W.nsIn K mainGlobals "_law_one" = some (some (.ref f7))) (l7 : K.lookup f7 = some ⟨oc7, od7, .func (PySem.W.fnOf "_law_one" "_law_one" (defArgs s_q_one) (defBody s_q_one) (defScope s_q_one) .none kV7 dc7 pm7 an7 cd7 ct7), sl7⟩) (c7 : PySem.W.codeIn K cd7 "_law_one" = true) (k7 : PySem.W.keepIn K (.ref f7) = true)
    (a8 : PySem.W.nsIn K mainGlobals "_law_whole" = some (some (.ref f8))) (l8 : K.lookup f8 = some ⟨oc8, od8, .func (PySem.W.fnOf "_law_whole" "_law_whole" (defArgs s_q_whole) (defBody s_q_whole) (defScope s_q_whole) .none kV8 dc8 pm8 an8 cd8 ct8), sl8⟩) (c8 : PySem.W.codeIn K cd8 "_law_whole" = true) (k8 : PySem.W.keepIn K (.ref f8) = true)
    (a9 : PySem.W.nsIn K mainGlobals "_law_same" = some (some (.ref f9))) (l9 : K.lookup f9 = some ⟨oc9, od9, .func (PySem.W.fnOf "_law_same" "_law_same" (defArgs s_q_same) (defBody s_q_same) (defScope s_q_same) .none kV9 dc9 pm9 an9 cd9 ct9), sl9⟩) (c9 : PySem.W.codeIn K cd9 "_law_same" = true) (k9 : PySem.W.keepIn K (.ref f9) = true)
    (a10 : PySem.W.nsIn K mainGlobals "_law_bent" = some (some (.ref f10))) (l10 : K.lookup f10 = some ⟨oc10, od10, .func (PySem.W.fnOf "_law_bent" "_law_bent" (defArgs s_q_bent) (defBody s_q_bent) (defScope s_q_bent) .none kV10 dc10 pm10 an10 cd10 ct10), sl10⟩) (c10 : PySem.W.codeIn K cd10 "_law_bent" = true) (k10 : PySem.W.keepIn K (.ref f10) = true)
    (a11 : PySem.W.nsIn K mainGlobals "_law_next" = some (some (.ref f11))) (l11 : K.lookup f11 = some ⟨oc11, od11, .func (PySem.W.fnOf "_law_next" "_law_next" (defArgs s_q_next) (defBody s_q_next) (defScope s_q_next) .none kV11 dc11 pm11 an11 cd11 ct11), sl11⟩) (c11 : PySem.W.codeIn K cd11 "_law_next" = true) (k11 : PySem.W.keepIn K (.ref f11) = true)
    (a12 : PySem.W.nsIn K mainGlobals "_law_odd" = some (some (.ref f12))) (l12 : K.lookup f12 = some ⟨oc12, od12, .func (PySem.W.fnOf "_law_odd" "_law_odd" (defArgs s_q_odd) (defBody s_q_odd) (defScope s_q_odd) .none kV12 dc12 pm12 an12 cd12 ct12), sl12⟩) (c12 : PySem.W.codeIn K cd12 "_law_odd" = true) (k12 : PySem.W.keepIn K (.ref f12) = true)
    (a13 : PySem.W.nsIn K mainGlobals "_law_great" = some (some (.ref f13))) (l13 : K.lookup f13 = some ⟨oc13, od13, .func (PySem.W.fnOf "_law_great" "_law_great" (defArgs s_q_great) (defBody s_q_great) (defScope s_q_great) .none kV13 dc13 pm13 an13 cd13 ct13), sl13⟩) (c13 : PySem.W.codeIn K cd13 "_law_great" = true) (k13 : PySem.W.keepIn K (.ref f13) = true)
    (a14 : PySem.W.nsIn K mainGlobals "_law_gains" = some (some (.ref f14))) (l14 : K.lookup f14 = some ⟨oc14, od14, .func (PySem.W.fnOf "_law_gains" "_law_gains" (defArgs s_q_gains) (defBody s_q_gains) (defScope s_q_gains) .none kV14 dc14 pm14 an14 cd14 ct14), sl14⟩) (c14 : PySem.W.codeIn K cd14 "_law_gains" = true) (k14 : PySem.W.keepIn K (.ref f14) = true)
    (a15 : PySem.W.nsIn K mainGlobals "_law_capacity" = some (some (.ref f15))) (l15 : K.lookup f15 = some ⟨oc15, od15, .func (PySem.W.fnOf "_law_capacity" "_law_capacity" (defArgs s_q_capacity) (defBody s_q_capacity) (defScope s_q_capacity) .none kV15 dc15 pm15 an15 cd15 ct15), sl15⟩) (c15 : PySem.W.codeIn K cd15 "_law_capacity" = true) (k15 : PySem.W.keepIn K (.ref f15) = true)
    (a16 : PySem.W.nsIn K mainGlobals "_law_family" = some (some (.ref f16))) (l16 : K.lookup f16 = some ⟨oc16, od16, .func (PySem.W.fnOf "_law_family" "_law_family" (defArgs s_q_family) (defBody s_q_family) (defScope s_q_family) .none kV16 dc16 pm16 an16 cd16 ct16), sl16⟩) (c16 : PySem.W.codeIn K cd16 "_law_family" = true) (k16 : PySem.W.keepIn K (.ref f16) = true)
    (a17 : PySem.W.nsIn K mainGlobals "_law_limits" = some (some (.ref f17))) (l17 : K.lookup f17 = some ⟨oc17, od17, .func (PySem.W.fnOf "_law_limits" "_law_limits" (defArgs s_q_limits) (defBody s_q_limits) (defScope s_q_limits) .none kV17 dc17 pm17 an17 cd17 ct17), sl17⟩) (c17 : PySem.W.codeIn K cd17 "_law_limits" = true) (k17 : PySem.W.keepIn K (.ref f17) = true)
    (a18 : PySem.W.nsIn K mainGlobals "_law_system" = some (some (.ref f18))) (l18 : K.lookup f18 = some ⟨oc18, od18, .func (PySem.W.fnOf "_law_system" "_law_system" (defArgs s_q_system) (defBody s_q_system) (defScope s_q_system) .none kV18 dc18 pm18 an18 cd18 ct18), sl18⟩) (c18 : PySem.W.codeIn K cd18 "_law_system" = true) (k18 : PySem.W.keepIn K (.ref f18) = true)
    (a19 : PySem.W.nsIn K mainGlobals "_law_item_price" = some (some (.ref f19))) (l19 : K.lookup f19 = some ⟨oc19, od19, .func (PySem.W.fnOf "_law_item_price" "_law_item_price" (defArgs s_q_item_price) (defBody s_q_item_price) (defScope s_q_item_price) .none kV19 dc19 pm19 an19 cd19 ct19), sl19⟩) (c19 : PySem.W.codeIn K cd19 "_law_item_price" = true) (k19 : PySem.W.keepIn K (.ref f19) = true)
    (a20 : PySem.W.nsIn K mainGlobals "_law_item_value" = some (some (.ref f20))) (l20 : K.lookup f20 = some ⟨oc20, od20, .func (PySem.W.fnOf "_law_item_value" "_law_item_value" (defArgs s_q_item_value) (defBody s_q_item_value) (defScope s_q_item_value) .none kV20 dc20 pm20 an20 cd20 ct20), sl20⟩) (c20 : PySem.W.codeIn K cd20 "_law_item_value" = true) (k20 : PySem.W.keepIn K (.ref f20) = true)
    (a21 : PySem.W.nsIn K mainGlobals "_law_price_bound" = some (some (.ref f21))) (l21 : K.lookup f21 = some ⟨oc21, od21, .func (PySem.W.fnOf "_law_price_bound" "_law_price_bound" (defArgs s_q_price_bound) (defBody s_q_price_bound) (defScope s_q_price_bound) .none kV21 dc21 pm21 an21 cd21 ct21), sl21⟩) (c21 : PySem.W.codeIn K cd21 "_law_price_bound" = true) (k21 : PySem.W.keepIn K (.ref f21) = true)
    (a22 : PySem.W.nsIn K mainGlobals "_law_values" = some (some (.ref f22))) (l22 : K.lookup f22 = some ⟨oc22, od22, .func (PySem.W.fnOf "_law_values" "_law_values" (defArgs s_q_values) (defBody s_q_values) (defScope s_q_values) .none kV22 dc22 pm22 an22 cd22 ct22), sl22⟩) (c22 : PySem.W.codeIn K cd22 "_law_values" = true) (k22 : PySem.W.keepIn K (.ref f22) = true)
    (a23 : PySem.W.nsIn K mainGlobals "law" = some (some (.ref f23))) (l23 : K.lookup f23 = some ⟨oc23, od23, .func (PySem.W.fnOf "law" "law" (defArgs s_law) (defBody s_law) (defScope s_law) .none kV23 dc23 pm23 an23 cd23 ct23), sl23⟩) (c23 : PySem.W.codeIn K cd23 "law" = true) (k23 : PySem.W.keepIn K (.ref f23) = true)
    (z0 : PySem.W.nsIn K mainGlobals "all" = some none)
    (z1 : PySem.W.nsIn K mainGlobals "sum" = some none)
    (z2 : PySem.W.nsIn K mainGlobals "enumerate" = some none)
    (z3 : PySem.W.nsIn K mainGlobals "zip" = some none)
    (z4 : PySem.W.nsIn K mainGlobals "isinstance" = some none)
    (z5 : PySem.W.nsIn K mainGlobals "dict" = some none)
    (z6 : PySem.W.nsIn K mainGlobals "str" = some none)
    (z7 : PySem.W.nsIn K mainGlobals "tuple" = some none)
    (z8 : PySem.W.nsIn K mainGlobals "int" = some none)
    (z9 : PySem.W.nsIn K mainGlobals "range" = some none)
    (z10 : PySem.W.nsIn K mainGlobals "list" = some none)
    (z11 : PySem.W.nsIn K mainGlobals "max" = some none)
    (z12 : PySem.W.nsIn K mainGlobals "bool" = some none)
    (z13 : PySem.W.nsIn K mainGlobals "abs" = some none)
    (z14 : PySem.W.nsIn K mainGlobals "min" = some none)
    (z15 : PySem.W.nsIn K mainGlobals "len" = some none)
    (z16 : PySem.W.nsIn K mainGlobals "repr" = some none)
    (z17 : PySem.W.nsIn K mainGlobals "sorted" = some none)
    {t_MAX_PRICE : Tok} (y_MAX_PRICE : PySem.W.nsIn K mainGlobals "MAX_PRICE" = some (some (.int (999999999999999999999999999999) t_MAX_PRICE)))
    : ∃ fd : FuncData, (∀ (s : Shared) (v : Value), BindsTo s fd ⟨[v], []⟩ [("_law_script", v)]) ∧ ∀ base : Heap, K.In base → base.Ns mainGlobals mg → FnG P w K mg base (L2.CX P w) 16 fa fd p_law (sp_law K) := by
  have e := hfa.symm.trans (PySem.W.mg_of X G a23)
  cases e
  have F0 := fun_mk (st := s_is_between) l0 c0 k0
  have b0 := F0.binds (ps := p_is_between) fun _ _ _ _ _ _ us hl => match us, hl with | [_, _, _], _ => rfl
  have F1 := fun_mk (st := s_is_tuple_of) l1 c1 k1
  have b1 := F1.binds (ps := p_is_tuple_of) fun _ _ _ _ _ _ us hl => match us, hl with | [_, _], _ => rfl
  have F2 := fun_mk (st := s_is_prices) l2 c2 k2
  have b2 := F2.binds (ps := p_is_prices) fun _ _ _ _ _ _ us hl => match us, hl with | [_, _], _ => rfl
  have F3 := fun_mk (st := s_price_of_item) l3 c3 k3
  have b3 := F3.binds (ps := p_price_of_item) fun _ _ _ _ _ _ us hl => match us, hl with | [_, _, _], _ => rfl
  have F4 := fun_mk (st := s_gain_above) l4 c4 k4
  have b4 := F4.binds (ps := p_gain_above) fun _ _ _ _ _ _ us hl => match us, hl with | [_, _], _ => rfl
  have F5 := fun_mk (st := s_price_bound) l5 c5 k5
  have b5 := F5.binds (ps := p_price_bound) fun _ _ _ _ _ _ us hl => match us, hl with | [_, _], _ => rfl
  have F6 := fun_mk (st := s_q_deck) l6 c6 k6
  have b6 := F6.binds (ps := p_q_deck) fun _ _ _ _ _ _ us hl => match us, hl with | [_], _ => rfl
  have F7 := fun_mk (st := s_q_one) l7 c7 k7
  have b7 := F7.binds (ps := p_q_one) fun _ _ _ _ _ _ us hl => match us, hl with | [_, _], _ => rfl
  have F8 := fun_mk (st := s_q_whole) l8 c8 k8
  have b8 := F8.binds (ps := p_q_whole) fun _ _ _ _ _ _ us hl => match us, hl with | [_], _ => rfl
  have F9 := fun_mk (st := s_q_same) l9 c9 k9
  have b9 := F9.binds (ps := p_q_same) fun _ _ _ _ _ _ us hl => match us, hl with | [_, _], _ => rfl
  have F10 := fun_mk (st := s_q_bent) l10 c10 k10
  have b10 := F10.binds (ps := p_q_bent) fun _ _ _ _ _ _ us hl => match us, hl with | [_, _, _], _ => rfl
  have F11 := fun_mk (st := s_q_next) l11 c11 k11
  have b11 := F11.binds (ps := p_q_next) fun _ _ _ _ _ _ us hl => match us, hl with | [_, _], _ => rfl
  have F12 := fun_mk (st := s_q_odd) l12 c12 k12
  have b12 := F12.binds (ps := p_q_odd) fun _ _ _ _ _ _ us hl => match us, hl with | [_], _ => rfl
  have F13 := fun_mk (st := s_q_great) l13 c13 k13
  have b13 := F13.binds (ps := p_q_great) fun _ _ _ _ _ _ us hl => match us, hl with | [_], _ => rfl
  have F14 := fun_mk (st := s_q_gains) l14 c14 k14
  have b14 := F14.binds (ps := p_q_gains) fun _ _ _ _ _ _ us hl => match us, hl with | [_, _, _], _ => rfl
  have F15 := fun_mk (st := s_q_capacity) l15 c15 k15
  have b15 := F15.binds (ps := p_q_capacity) fun _ _ _ _ _ _ us hl => match us, hl with | [_], _ => rfl
  have F16 := fun_mk (st := s_q_family) l16 c16 k16
  have b16 := F16.binds (ps := p_q_family) fun _ _ _ _ _ _ us hl => match us, hl with | [_, _], _ => rfl
  have F17 := fun_mk (st := s_q_limits) l17 c17 k17
  have b17 := F17.binds (ps := p_q_limits) fun _ _ _ _ _ _ us hl => match us, hl with | [_, _, _], _ => rfl
  have F18 := fun_mk (st := s_q_system) l18 c18 k18
  have b18 := F18.binds (ps := p_q_system) fun _ _ _ _ _ _ us hl => match us, hl with | [_, _, _, _], _ => rfl
  have F19 := fun_mk (st := s_q_item_price) l19 c19 k19
  have b19 := F19.binds (ps := p_q_item_price) fun _ _ _ _ _ _ us hl => match us, hl with | [_, _, _], _ => rfl
  have F20 := fun_mk (st := s_q_item_value) l20 c20 k20
  have b20 := F20.binds (ps := p_q_item_value) fun _ _ _ _ _ _ us hl => match us, hl with | [_, _], _ => rfl
  have F21 := fun_mk (st := s_q_price_bound) l21 c21 k21
  have b21 := F21.binds (ps := p_q_price_bound) fun _ _ _ _ _ _ us hl => match us, hl with | [_, _], _ => rfl
  have F22 := fun_mk (st := s_q_values) l22 c22 k22
  have b22 := F22.binds (ps := p_q_values) fun _ _ _ _ _ _ us hl => match us, hl with | [_, _], _ => rfl
  have F23 := fun_mk (st := s_law) l23 c23 k23
  have b23 := F23.binds (ps := p_law) fun _ _ _ _ _ _ us hl => match us, hl with | [_], _ => rfl
  let T : Txt K mg := {
    a_is_between := f0, d_is_between := _, F_is_between := F0, b_is_between := b0, g_is_between := PySem.W.mg_of X G a0,
    a_is_tuple_of := f1, d_is_tuple_of := _, F_is_tuple_of := F1, b_is_tuple_of := b1, g_is_tuple_of := PySem.W.mg_of X G a1,
    a_is_prices := f2, d_is_prices := _, F_is_prices := F2, b_is_prices := b2, g_is_prices := PySem.W.mg_of X G a2,
    a_price_of_item := f3, d_price_of_item := _, F_price_of_item := F3, b_price_of_item := b3, g_price_of_item := PySem.W.mg_of X G a3,
    a_gain_above := f4, d_gain_above := _, F_gain_above := F4, b_gain_above := b4, g_gain_above := PySem.W.mg_of X G a4,
    a_price_bound := f5, d_price_bound := _, F_price_bound := F5, b_price_bound := b5, g_price_bound := PySem.W.mg_of X G a5,
    a_q_deck := f6, d_q_deck := _, F_q_deck := F6, b_q_deck := b6, g_q_deck := PySem.W.mg_of X G a6,
    a_q_one := f7, d_q_one := _, F_q_one := F7, b_q_one := b7, g_q_one := PySem.W.mg_of X G a7,
    a_q_whole := f8, d_q_whole := _, F_q_whole := F8, b_q_whole := b8, g_q_whole := PySem.W.mg_of X G a8,
    a_q_same := f9, d_q_same := _, F_q_same := F9, b_q_same := b9, g_q_same := PySem.W.mg_of X G a9,
    a_q_bent := f10, d_q_bent := _, F_q_bent := F10, b_q_bent := b10, g_q_bent := PySem.W.mg_of X G a10,
    a_q_next := f11, d_q_next := _, F_q_next := F11, b_q_next := b11, g_q_next := PySem.W.mg_of X G a11,
    a_q_odd := f12, d_q_odd := _, F_q_odd := F12, b_q_odd := b12, g_q_odd := PySem.W.mg_of X G a12,
    a_q_great := f13, d_q_great := _, F_q_great := F13, b_q_great := b13, g_q_great := PySem.W.mg_of X G a13,
    a_q_gains := f14, d_q_gains := _, F_q_gains := F14, b_q_gains := b14, g_q_gains := PySem.W.mg_of X G a14,
    a_q_capacity := f15, d_q_capacity := _, F_q_capacity := F15, b_q_capacity := b15, g_q_capacity := PySem.W.mg_of X G a15,
    a_q_family := f16, d_q_family := _, F_q_family := F16, b_q_family := b16, g_q_family := PySem.W.mg_of X G a16,
    a_q_limits := f17, d_q_limits := _, F_q_limits := F17, b_q_limits := b17, g_q_limits := PySem.W.mg_of X G a17,
    a_q_system := f18, d_q_system := _, F_q_system := F18, b_q_system := b18, g_q_system := PySem.W.mg_of X G a18,
    a_q_item_price := f19, d_q_item_price := _, F_q_item_price := F19, b_q_item_price := b19, g_q_item_price := PySem.W.mg_of X G a19,
    a_q_item_value := f20, d_q_item_value := _, F_q_item_value := F20, b_q_item_value := b20, g_q_item_value := PySem.W.mg_of X G a20,
    a_q_price_bound := f21, d_q_price_bound := _, F_q_price_bound := F21, b_q_price_bound := b21, g_q_price_bound := PySem.W.mg_of X G a21,
    a_q_values := f22, d_q_values := _, F_q_values := F22, b_q_values := b22, g_q_values := PySem.W.mg_of X G a22,
    a_law := fa, d_law := _, F_law := F23, b_law := b23, g_law := PySem.W.mg_of X G a23,
    m_all := PySem.W.mg_none_of X G z0, m_sum := PySem.W.mg_none_of X G z1, m_enumerate := PySem.W.mg_none_of X G z2, m_zip := PySem.W.mg_none_of X G z3, m_isinstance := PySem.W.mg_none_of X G z4, m_dict := PySem.W.mg_none_of X G z5, m_str := PySem.W.mg_none_of X G z6, m_tuple := PySem.W.mg_none_of X G z7, m_int := PySem.W.mg_none_of X G z8, m_range := PySem.W.mg_none_of X G z9, m_list := PySem.W.mg_none_of X G z10, m_max := PySem.W.mg_none_of X G z11, m_bool := PySem.W.mg_none_of X G z12, m_abs := PySem.W.mg_none_of X G z13, m_min := PySem.W.mg_none_of X G z14, m_len := PySem.W.mg_none_of X G z15, m_repr := PySem.W.mg_none_of X G z16, m_sorted := PySem.W.mg_none_of X G z17, t_MAX_PRICE := t_MAX_PRICE, g_MAX_PRICE := PySem.W.mg_of X G y_MAX_PRICE }
  exact ⟨_, fun s v => .of_eq rfl, fun base _ _ => ok_law T (fun _ => 0) pure_law⟩
end FD
open PySem PySem.W PyProof.Rows
set_option maxHeartbeats 0 in
theorem PySem.Challenge.cw_groupcaps_k21_bounds_of_prices_holds : PySem.Challenge.rw_groupcaps_k21_bounds_of_prices.Holds := by
  w_on; o_law; k_head; (case hw => w_witness2)
  k_fill
  refine FD.walkG (l := PySem.Challenge.rw_groupcaps_k21_bounds_of_prices) (n := 63) (k := 16) (x := "_law_script") (CX := fun w => L2.CX (PySem.Challenge.rw_groupcaps_k21_bounds_of_prices).prog w) (sp := fun w => FD.sp_law _) rfl (by decide) rfl ⟨rfl, by decide, by decide⟩ (fun w h Y => PySem.W.kIn_of Y) ?F (fun _ _ a ns hl hS => ⟨a, ns, rfl, hS, hl, fun _ => rfl⟩) (fun _ _ _ _ _ h => FD.noCX _ _ _ _ h)
  case F =>
    intro w mg fa h KX G hmg
    refine' FD.all_mk KX G hmg ?a0 ?l0 ?c0 ?k0 ?a1 ?l1 ?c1 ?k1 ?a2 ?l2 ?c2 ?k2 ?a3 ?l3 ?c3 ?k3 ?a4 ?l4 ?c4 ?k4 ?a5 ?l5 ?c5 ?k5 ?a6 ?l6 ?c6 ?k6 ?a7 ?l7 ?c7 ?k7 ?a8 ?l8 ?c8 ?k8 ?a9 ?l9 ?c9 ?k9 ?a10 ?l10 ?c10 ?k10 ?a11 ?l11 ?c11 ?k11 ?a12 ?l12 ?c12 ?k12 ?a13 ?l13 ?c13 ?k13 ?a14 ?l14 ?c14 ?k14 ?a15 ?l15 ?c15 ?k15 ?a16 ?l16 ?c16 ?k16 ?a17 ?l17 ?c17 ?k17 ?a18 ?l18 ?c18 ?k18 ?a19 ?l19 ?c19 ?k19 ?a20 ?l20 ?c20 ?k20 ?a21 ?l21 ?c21 ?k21 ?a22 ?l22 ?c22 ?k22 ?a23 ?l23 ?c23 ?k23 ?z0 ?z1 ?z2 ?z3 ?z4 ?z5 ?z6 ?z7 ?z8 ?z9 ?z10 ?z11 ?z12 ?z13 ?z14 ?z15 ?z16 ?z17 ?y_MAX_PRICE
    (case a0 => k_is); (case l0 => k_is); (case c0 => k_is); (case k0 => k_is); (case a1 => k_is); (case l1 => k_is); (case c1 => k_is); (case k1 => k_is); (case a2 => k_is); (case l2 => k_is); (case c2 => k_is); (case k2 => k_is); (case a3 => k_is); (case l3 => k_is); (case c3 => k_is); (case k3 => k_is); (case a4 => k_is); (case l4 => k_is); (case c4 => k_is); (case k4 => k_is); (case a5 => k_is); (case l5 => k_is); (case c5 => k_is); (case k5 => k_is); (case a6 => k_is); (case l6 => k_is); (case c6 => k_is); (case k6 => k_is); (case a7 => k_is); (case l7 => k_is); (case c7 => k_is); (case k7 => k_is); (case a8 => k_is); (case l8 => k_is); (case c8 => k_is); (case k8 => k_is); (case a9 => k_is); (case l9 => k_is); (case c9 => k_is); (case k9 => k_is); (case a10 => k_is); (case l10 => k_is); (case c10 => k_is); (case k10 => k_is); (case a11 => k_is); (case l11 => k_is); (case c11 => k_is); (case k11 => k_is); (case a12 => k_is); (case l12 => k_is); (case c12 => k_is); (case k12 => k_is); (case a13 => k_is); (case l13 => k_is); (case c13 => k_is); (case k13 => k_is); (case a14 => k_is); (case l14 => k_is); (case c14 => k_is); (case k14 => k_is); (case a15 => k_is); (case l15 => k_is); (case c15 => k_is); (case k15 => k_is); (case a16 => k_is); (case l16 => k_is); (case c16 => k_is); (case k16 => k_is); (case a17 => k_is); (case l17 => k_is); (case c17 => k_is); (case k17 => k_is); (case a18 => k_is); (case l18 => k_is); (case c18 => k_is); (case k18 => k_is); (case a19 => k_is); (case l19 => k_is); (case c19 => k_is); (case k19 => k_is); (case a20 => k_is); (case l20 => k_is); (case c20 => k_is); (case k20 => k_is); (case a21 => k_is); (case l21 => k_is); (case c21 => k_is); (case k21 => k_is); (case a22 => k_is); (case l22 => k_is); (case c22 => k_is); (case k22 => k_is); (case a23 => k_is); (case l23 => k_is); (case c23 => k_is); (case k23 => k_is); (case z0 => k_is); (case z1 => k_is); (case z2 => k_is); (case z3 => k_is); (case z4 => k_is); (case z5 => k_is); (case z6 => k_is); (case z7 => k_is); (case z8 => k_is); (case z9 => k_is); (case z10 => k_is); (case z11 => k_is); (case z12 => k_is); (case z13 => k_is); (case z14 => k_is); (case z15 => k_is); (case z16 => k_is); (case z17 => k_is); (case y_MAX_PRICE => k_is)


import PyProof.Rows.All
import Wide.All
import OpenK.AllK
import Wide.FinOn
import HandS.ForMost
import HandS.ForExc
import HandS.TupMul
import HandS.Wide
import HandS.TupAny
import HandS.Deep
import HandS.TupLe
import HandS.Style
import PyProof.Rows.IntBool
import HandS.DeepEq
import HandS.Walk
import HandS.Zip
import HandS.Rev
import HandS.RevRange
import HandS.CallSlots
import HandS.IsInst
import HandS.TryOnly
import HandS.SortInts
import HandS.Conv
import HandS.SortKw
import KE.KRevSl
import HandS.Dict
import KE.GoesMore
import HandS.Iter
import HandS.RaiseMore
import HandS.ExcInit
import HandS.ExcIs
import HandS.ExcField
import HandS.SetFor
import HandS.Strs
import KE.KExcIs
import HandS.Lambda
import KE.KSortKey
import HandS.Ends
import HandS.EndTab
import HandS.Star
import Wide.More
import HandS.Text
import HandS.StrMore
import HandS.FStr
import KE.DataMinMax
import PyProof.CollectIter
import PySem.Challenge.RW_groupcaps_k60_system_texts
set_option Elab.async false
set_option linter.all false
set_option maxRecDepth 100000
/-! F0: data, what stands for them in the heap, the world, the state of a frame. -/
namespace FD
open PySem PySem.Spec PyProof.Rows L2

/-- a datum: what a value means, without addresses -/
inductive D where
  | non | bl (b : Bool) | int (i : Int) | str (x : Str)
  | tup (ds : List D) | lst (ds : List D)
  | dct (kvs : List (Key × D))
  | obj (c : Str) (fs : List (Str × D))
  | ty (n : String) | hnd (n : Nat) | fn (n : Nat)

/-- the world: what is hidden from the data (the deck), with its state; the classes' addresses -/
structure Wd where
  T : Type
  On : T → Hp → Prop
  hid : Addr → Prop
  val : Nat → V
  fv : Nat → V := fun _ => .non
  ca : Str → Addr
  loc : ∀ t H H', On t H → (∀ a o, (hid a ∨ ∃ φ, o = .ext φ) → H a = some o → H' a = some o) → On t H'
  trk : ∀ t H a, On t H → hid a → ∃ o, H a = some o ∧ ∀ xs, o ≠ .tup xs

mutual
inductive Den (Z : Wd) (O : Addr → Prop) (H : Hp) : V → D → Prop
  | non : Den Z O H .non .non
  | bl (b : Bool) : Den Z O H (.bl b) (.bl b)
  | int (i : Int) : Den Z O H (.int i) (.int i)
  | str (x : Str) : Den Z O H (.str x) (.str x)
  | ty (n : String) : Den Z O H (.ty n) (.ty n)
  | hnd (n : Nat) : Den Z O H (Z.val n) (.hnd n)
  | fn (n : Nat) : Den Z O H (Z.fv n) (.fn n)
  | ref {a : Addr} {o : HO} {d : D} : H a = some o → ¬ O a → Cont Z O H o d → Den Z O H (.ref a) d
/-- what an object holds -/
inductive Cont (Z : Wd) (O : Addr → Prop) (H : Hp) : HO → D → Prop
  | tup {xs : List V} {ds : List D} : DenA Z O H xs ds → Cont Z O H (.tup xs) (.tup ds)
  | lst {xs : List V} {ds : List D} : DenA Z O H xs ds → Cont Z O H (.lst xs) (.lst ds)
  | dct {xs : List (Key × V)} {ds : List (Key × D)} : DenK Z O H xs ds → Cont Z O H (.dK xs) (.dct ds)
  | obj {c : Str} {dx : Addr} {fs : List (Str × V)} {ds : List (Str × D)} : DenF Z O H fs ds → Cont Z O H (.ins (Z.ca c) dx fs) (.obj c ds)
inductive DenA (Z : Wd) (O : Addr → Prop) (H : Hp) : List V → List D → Prop
  | nil : DenA Z O H [] []
  | cons {v : V} {vs : List V} {d : D} {ds : List D} : Den Z O H v d → DenA Z O H vs ds → DenA Z O H (v :: vs) (d :: ds)
inductive DenK (Z : Wd) (O : Addr → Prop) (H : Hp) : List (Key × V) → List (Key × D) → Prop
  | nil : DenK Z O H [] []
  | cons {k : Key} {v : V} {vs : List (Key × V)} {d : D} {ds : List (Key × D)} : Den Z O H v d → DenK Z O H vs ds → DenK Z O H ((k, v) :: vs) ((k, d) :: ds)
inductive DenF (Z : Wd) (O : Addr → Prop) (H : Hp) : List (Str × V) → List (Str × D) → Prop
  | nil : DenF Z O H [] []
  | cons {k : Str} {v : V} {vs : List (Str × V)} {d : D} {ds : List (Str × D)} : Den Z O H v d → DenF Z O H vs ds → DenF Z O H ((k, v) :: vs) ((k, d) :: ds)
end

section
variable {Z : Wd} {O O' : Addr → Prop} {H H' : Hp}
mutual
theorem Den.mono (k : ∀ a o, H a = some o → ¬ O a → H' a = some o ∧ ¬ O' a) : ∀ {v : V} {d : D}, Den Z O H v d → Den Z O' H' v d
  | _, _, .non => .non
  | _, _, .bl b => .bl b
  | _, _, .int i => .int i
  | _, _, .str x => .str x
  | _, _, .ty x => .ty x
  | _, _, .hnd n => .hnd n
  | _, _, .fn n => .fn n
  | _, _, .ref e n c => .ref (k _ _ e n).1 (k _ _ e n).2 (Cont.mono k c)
theorem Cont.mono (k : ∀ a o, H a = some o → ¬ O a → H' a = some o ∧ ¬ O' a) : ∀ {o : HO} {d : D}, Cont Z O H o d → Cont Z O' H' o d
  | _, _, .tup c => .tup (DenA.mono k c)
  | _, _, .lst c => .lst (DenA.mono k c)
  | _, _, .dct c => .dct (DenK.mono k c)
  | _, _, .obj c => .obj (DenF.mono k c)
theorem DenA.mono (k : ∀ a o, H a = some o → ¬ O a → H' a = some o ∧ ¬ O' a) : ∀ {v : List V} {d : List D}, DenA Z O H v d → DenA Z O' H' v d
  | _, _, .nil => .nil
  | _, _, .cons h r => .cons (Den.mono k h) (DenA.mono k r)
theorem DenK.mono (k : ∀ a o, H a = some o → ¬ O a → H' a = some o ∧ ¬ O' a) : ∀ {v : List (Key × V)} {d : List (Key × D)}, DenK Z O H v d → DenK Z O' H' v d
  | _, _, .nil => .nil
  | _, _, .cons h r => .cons (Den.mono k h) (DenK.mono k r)
theorem DenF.mono (k : ∀ a o, H a = some o → ¬ O a → H' a = some o ∧ ¬ O' a) : ∀ {v : List (Str × V)} {d : List (Str × D)}, DenF Z O H v d → DenF Z O' H' v d
  | _, _, .nil => .nil
  | _, _, .cons h r => .cons (Den.mono k h) (DenF.mono k r)
end
theorem DenA.len : ∀ {vs : List V} {ds : List D}, DenA Z O H vs ds → vs.length = ds.length
  | _, _, .nil => rfl
  | _, _, .cons _ r => by rw [List.length_cons, List.length_cons, DenA.len r]
theorem DenA.get : ∀ {vs : List V} {ds : List D} {i : Nat} {v : V}, DenA Z O H vs ds → vs[i]? = some v → ∃ d, ds[i]? = some d ∧ Den Z O H v d
  | _, _, _, _, .nil, e => by cases e
  | _, _, 0, _, .cons h _, e => by
    cases e
    exact ⟨_, rfl, h⟩
  | _, _, i + 1, _, .cons _ r, e => DenA.get (i := i) r e
theorem DenA.get2 : ∀ {vs : List V} {ds : List D} {i : Nat} {d : D}, DenA Z O H vs ds → ds[i]? = some d → ∃ v, vs[i]? = some v ∧ Den Z O H v d
  | _, _, _, _, .nil, e => by cases e
  | _, _, 0, _, .cons h _, e => by
    cases e
    exact ⟨_, rfl, h⟩
  | _, _, i + 1, _, .cons _ r, e => DenA.get2 (i := i) r e
theorem DenA.app : ∀ {vs ws : List V} {ds es : List D}, DenA Z O H vs ds → DenA Z O H ws es → DenA Z O H (vs ++ ws) (ds ++ es)
  | _, _, _, _, .nil, k => k
  | _, _, _, _, .cons h r, k => .cons h (DenA.app r k)
theorem DenA.one {v : V} {d : D} (h : Den Z O H v d) : DenA Z O H [v] [d] := .cons h .nil
theorem DenA.take : ∀ {vs : List V} {ds : List D} (n : Nat), DenA Z O H vs ds → DenA Z O H (vs.take n) (ds.take n)
  | _, _, 0, _ => .nil
  | _, _, _ + 1, .nil => .nil
  | _, _, n + 1, .cons r t => .cons r (DenA.take n t)
theorem DenA.drop : ∀ {vs : List V} {ds : List D} (n : Nat), DenA Z O H vs ds → DenA Z O H (vs.drop n) (ds.drop n)
  | _, _, 0, r => r
  | _, _, _ + 1, .nil => .nil
  | _, _, n + 1, .cons _ t => DenA.drop n t
theorem DenA.set : ∀ {vs : List V} {ds : List D} {v : V} {d : D} (n : Nat), DenA Z O H vs ds → Den Z O H v d → DenA Z O H (vs.set n v) (ds.set n d)
  | _, _, _, _, _, .nil, _ => .nil
  | _, _, _, _, 0, .cons _ t, h => .cons h t
  | _, _, _, _, n + 1, .cons r t, h => .cons r (DenA.set n t h)
theorem denA_ints : ∀ ns : List Int, DenA Z O H (ns.map V.int) (ns.map D.int)
  | [] => .nil
  | n :: r => .cons (.int n) (denA_ints r)
theorem DenF.lookup {f : Str} : ∀ {vs : List (Str × V)} {ds : List (Str × D)} {d : D}, DenF Z O H vs ds → ds.lookup f = some d → ∃ v, vs.lookup f = some v ∧ Den Z O H v d
  | _, _, _, .nil, e => by cases e
  | (k, v) :: vs, (_, d) :: ds, d', .cons h r, e => by
    rw [List.lookup_cons] at e ⊢
    cases q : f == k with
    | true =>
      rw [q] at e
      cases e
      exact ⟨v, rfl, h⟩
    | false =>
      rw [q] at e
      exact DenF.lookup r e
theorem DenF.keys {f : Str} : ∀ {vs : List (Str × V)} {ds : List (Str × D)}, DenF Z O H vs ds → vs.map (·.1) = ds.map (·.1)
  | _, _, .nil => rfl
  | _, _, .cons _ r => by rw [List.map_cons, List.map_cons, DenF.keys (f := f) r]
end

/-- a slot: unset, a datum that others may hold too, a datum that no one else holds, the frame's own fixed value (an exception that is handled) -/
inductive Sl where
  | no | v (d : D) | o (d : D) | x

/-- the addresses that are not to be seen through data: the callers', the slots' own ones and the pending one (at 0) -/
def Hid (O₀ : Addr → Prop) (ow : Nat → Option Addr) : Addr → Prop := fun a => O₀ a ∨ ∃ i, ow i = some a

/-- an exception's fields, in its dict -/
def ExOk (Z : Wd) (O : Addr → Prop) (H : Hp) : Option Addr → List (Str × D) → Prop
  | none, fs => fs = []
  | some a, fs => ∃ vs, H a = some (.xd vs) ∧ ¬ O a ∧ DenF Z O H vs fs
theorem ExOk.mono {Z : Wd} {O O' : Addr → Prop} {H H' : Hp} (k : ∀ a o, H a = some o → ¬ O a → H' a = some o ∧ ¬ O' a) {d : Option Addr} {fs : List (Str × D)} (h : ExOk Z O H d fs) : ExOk Z O' H' d fs := by
  cases d with
  | none => exact h
  | some a =>
    obtain ⟨vs, e, n, q⟩ := h
    exact ⟨vs, (k a _ e n).1, (k a _ e n).2, q.mono k⟩
/-- an exception that is handled: its value, its dict, its fields by data -/
structure Exv where
  v : V
  d : Option Addr
  fs : List (Str × D)
def noEv : Exv := ⟨.non, none, []⟩
/-- what stands in slot i -/
def SlotOk (Z : Wd) (ev : Exv) (O : Addr → Prop) (H : Hp) (ow : Nat → Option Addr) (σ : L2.St) (i : Nat) : Sl → Prop
  | .no => True
  | .v d => ∃ v, σ[i]? = some (some v) ∧ Den Z O H v d
  | .o d => ∃ a o, ow (i + 1) = some a ∧ σ[i]? = some (some (V.ref a)) ∧ H a = some o ∧ Cont Z O H o d
  | .x => σ[i]? = some (some ev.v) ∧ ExOk Z O H ev.d ev.fs

/-- the frame's state, by data -/
structure Rel (Z : Wd) (ev : Exv) (O₀ : Addr → Prop) (H₀ : Hp) (ow : Nat → Option Addr) (τ : List Sl) (t : Z.T) (σ : L2.St) (H : Hp) : Prop where
  on : Z.On t H
  hid : ∀ a, Z.hid a → O₀ a
  hidT : ∀ a, O₀ a → ∃ o, H₀ a = some o ∧ ∀ xs, o ≠ .tup xs
  grow : ∀ a o, H₀ a = some o → ¬ Z.hid a → H a = some o
  len : τ.length = σ.length
  slot : ∀ (i : Nat) (s : Sl), τ[i]? = some s → SlotOk Z ev (Hid O₀ ow) H ow σ i s
  inj : ∀ i j a, ow i = some a → ow j = some a → i = j
  new : ∀ i a, ow i = some a → H₀ a = none ∧ ∃ o, H a = some o ∧ ∀ xs, o ≠ .tup xs

/-- what was to be seen is to be seen, as it was -/
structure Ext (O : Addr → Prop) (H : Hp) (O' : Addr → Prop) (H' : Hp) : Prop where
  kept : ∀ a o, H a = some o → ¬ O a → H' a = some o
  hid : ∀ a, O' a → O a ∨ H a = none
theorem Ext.refl {O : Addr → Prop} {H : Hp} : Ext O H O H := ⟨fun _ _ e _ => e, fun _ h => .inl h⟩
theorem Ext.see {O O' : Addr → Prop} {H H' : Hp} (x : Ext O H O' H') : ∀ a o, H a = some o → ¬ O a → H' a = some o ∧ ¬ O' a := fun a o e n =>
  ⟨x.kept a o e n, fun h => (x.hid a h).elim n fun z => by rw [e] at z; cases z⟩
theorem Ext.trans {O O1 O2 : Addr → Prop} {H H1 H2 : Hp} (x : Ext O H O1 H1) (y : Ext O1 H1 O2 H2) : Ext O H O2 H2 := by
  refine ⟨fun a o e n => y.kept a o (x.kept a o e n) (x.see a o e n).2, fun a h => ?_⟩
  rcases y.hid a h with h | h
  · exact x.hid a h
  · cases e : H a with
    | none => exact .inr rfl
    | some o =>
      refine .inl (Classical.byContradiction fun n => ?_)
      rw [x.kept a o e n] at h
      cases h
theorem Den.ext {Z : Wd} {O O' : Addr → Prop} {H H' : Hp} (x : Ext O H O' H') {v : V} {d : D} (h : Den Z O H v d) : Den Z O' H' v d := h.mono x.see
theorem DenA.ext {Z : Wd} {O O' : Addr → Prop} {H H' : Hp} (x : Ext O H O' H') {v : List V} {d : List D} (h : DenA Z O H v d) : DenA Z O' H' v d := h.mono x.see
theorem Cont.ext {Z : Wd} {O O' : Addr → Prop} {H H' : Hp} (x : Ext O H O' H') {v : HO} {d : D} (h : Cont Z O H v d) : Cont Z O' H' v d := h.mono x.see

end FD

/-! F1: results, readings by functions, operators. -/
namespace FD
open PySem PySem.Spec PyProof.Rows L2

/-- what an expression gives: a datum others may hold, a new one that no one holds, the value of slot i -/
inductive Res where
  | d (d : D) | f (d : D) | s (i : Nat)
/-- an expression's end: a result, an exception -/
inductive Out where
  | ok (r : Res) | ex (c : Str) (fs : List (Str × D))
abbrev Sg (T : Type) := List Sl × T
abbrev EF (T : Type) := Sg T → Option (Out × Sg T)

/-- the frame: the world, the callers' hidden addresses, the heap at the entry, what is wanted of exceptions -/
structure Fx (Z : Wd) where
  O : Addr → Prop
  H : Hp
  W : WX
  ev : Exv

abbrev Fx.Rel {Z : Wd} (C : Fx Z) (ow : Nat → Option Addr) (τ : List Sl) (t : Z.T) (σ : L2.St) (H : Hp) : Prop := FD.Rel Z C.ev C.O C.H ow τ t σ H
abbrev Fx.Hid {Z : Wd} (C : Fx Z) (ow : Nat → Option Addr) : Addr → Prop := FD.Hid C.O ow

def ResOk {Z : Wd} (C : Fx Z) (ow : Nat → Option Addr) (τ : List Sl) (σ : L2.St) (H : Hp) (v : V) : Res → Prop
  | .d d => ow 0 = none ∧ Den Z (C.Hid ow) H v d
  | .f d => ∃ a o, ow 0 = some a ∧ v = .ref a ∧ H a = some o ∧ Cont Z (C.Hid ow) H o d
  | .s i => ow 0 = none ∧ σ[i]? = some (some v)

/-- what is wanted behind an expression -/
def Fin {Z : Wd} (C : Fx Z) (ow : Nat → Option Addr) (σ : L2.St) (H : Hp) (Q : VK) (s' : Sg Z.T) : Out → Prop
  | .ok r => ∀ ow' v H', C.Rel ow' s'.1 s'.2 σ H' → ResOk C ow' s'.1 σ H' v r → Ext (C.Hid ow) H (C.Hid ow') H' → Q v H'
  | .ex c fs => ∀ ow' d H', C.Rel ow' s'.1 s'.2 σ H' → ow' 0 = none → Ext (C.Hid ow) H (C.Hid ow') H' → ExOk Z (C.Hid ow') H' d fs → C.W (.ref (Z.ca c)) d σ H'
/-- the reading of an expression by a function of the data -/
def tF {Z : Wd} (C : Fx Z) (f : EF Z.T) : TE := fun σ H Q => ∃ ow τ t o s', C.Rel ow τ t σ H ∧ ow 0 = none ∧ f (τ, t) = some (o, s') ∧ Fin C ow σ H Q s' o

/-! ### states -/
section
variable {Z : Wd} {C : Fx Z} {ow ow' : Nat → Option Addr} {τ : List Sl} {t : Z.T} {σ : L2.St} {H H' : Hp} {v : V} {r : Res} {d : D}

/-- fewer addresses hidden -/
def drop (ow : Nat → Option Addr) (i : Nat) : Nat → Option Addr := fun j => if j = i then none else ow j
theorem drop_same {ow : Nat → Option Addr} {i : Nat} : drop ow i i = none := if_pos rfl
theorem drop_ne {ow : Nat → Option Addr} {i j : Nat} (h : j ≠ i) : drop ow i j = ow j := if_neg h
theorem drop_some {ow : Nat → Option Addr} {i j : Nat} {a : Addr} (h : drop ow i j = some a) : ow j = some a ∧ j ≠ i := by
  unfold drop at h
  split at h
  · cases h
  · exact ⟨h, by assumption⟩
theorem hid_drop {O₀ : Addr → Prop} {ow : Nat → Option Addr} {i : Nat} {a : Addr} (h : Hid O₀ (drop ow i) a) : Hid O₀ ow a :=
  h.imp id fun ⟨j, e⟩ => ⟨j, (drop_some e).1⟩
theorem ext_drop {O₀ : Addr → Prop} {ow : Nat → Option Addr} {i : Nat} {H : Hp} : Ext (Hid O₀ ow) H (Hid O₀ (drop ow i)) H :=
  ⟨fun _ _ e _ => e, fun _ h => .inl (hid_drop h)⟩

theorem Rel.open_ (R : C.Rel ow τ t σ H) {i : Nat} {a : Addr} (e : ow i = some a) : ¬ C.Hid (drop ow i) a := by
  rintro (h | ⟨j, h⟩)
  · obtain ⟨o, h1, _⟩ := R.hidT a h
    rw [(R.new i a e).1] at h1
    cases h1
  · obtain ⟨h1, h2⟩ := drop_some h
    exact h2 (R.inj j i a h1 e)

/-- slots behind a change of what is hidden -/
theorem SlotOk.ext {Z : Wd} {ev : Exv} {O O' : Addr → Prop} {H H' : Hp} {ow ow' : Nat → Option Addr} {σ : L2.St} {i : Nat} {s : Sl} (x : Ext O H O' H') (k : ∀ a, ow (i + 1) = some a → ow' (i + 1) = some a ∧ H' a = H a) (h : SlotOk Z ev O H ow σ i s) :
    SlotOk Z ev O' H' ow' σ i s := by
  cases s with
  | no => trivial
  | x => exact ⟨h.1, h.2.mono x.see⟩
  | v d =>
    obtain ⟨v, e, h⟩ := h
    exact ⟨v, e, h.ext x⟩
  | o d =>
    obtain ⟨a, o, e1, e2, e3, c⟩ := h
    obtain ⟨k1, k2⟩ := k a e1
    exact ⟨a, o, k1, e2, k2.trans e3, c.ext x⟩

/-- the pending object is let go of: it is a datum like others -/
theorem Rel.release (R : C.Rel ow τ t σ H) : C.Rel (drop ow 0) τ t σ H where
  on := R.on
  hid := R.hid
  hidT := R.hidT
  grow := R.grow
  len := R.len
  slot := fun i s e => (R.slot i s e).ext ext_drop fun a h => ⟨by rw [drop_ne (by omega)]; exact h, rfl⟩
  inj := fun i j a h1 h2 => R.inj i j a (drop_some h1).1 (drop_some h2).1
  new := fun i a h => R.new i a (drop_some h).1

/-- slot i is shared from now on -/
theorem Rel.share {i : Nat} (R : C.Rel ow τ t σ H) (e : τ[i]? = some (.o d)) : C.Rel (drop ow (i + 1)) (τ.set i (.v d)) t σ H where
  on := R.on
  hid := R.hid
  hidT := R.hidT
  grow := R.grow
  len := by rw [List.length_set]; exact R.len
  slot := fun j s h => by
    by_cases q : j = i
    · subst q
      have hl : j < τ.length := (List.getElem?_eq_some_iff.mp e).1
      rw [List.getElem?_set_self hl] at h
      cases h
      obtain ⟨a, o, e1, e2, e3, c⟩ := R.slot j _ e
      exact ⟨.ref a, e2, .ref e3 (R.open_ e1) (c.ext ext_drop)⟩
    · rw [List.getElem?_set_ne (Ne.symm q)] at h
      exact (R.slot j s h).ext ext_drop fun a h => ⟨by rw [drop_ne (by omega)]; exact h, rfl⟩
  inj := fun i j a h1 h2 => R.inj i j a (drop_some h1).1 (drop_some h2).1
  new := fun i a h => R.new i a (drop_some h).1

/-- the heap grows -/
def Grow (H H' : Hp) : Prop := ∀ a o, H a = some o → H' a = some o
theorem Grow.refl {H : Hp} : Grow H H := fun _ _ h => h
theorem Grow.new {H : Hp} {p : Addr} {o : HO} (h : H p = none) : Grow H (upd H p o) := fun a u e => by
  rw [upd_ne (ne_of_none e h)]
  exact e
theorem Grow.trans {H H1 H2 : Hp} (a : Grow H H1) (b : Grow H1 H2) : Grow H H2 := fun x o h => b x o (a x o h)
theorem Grow.ext {O : Addr → Prop} (g : Grow H H') : Ext O H O H' := ⟨fun a o e _ => g a o e, fun _ h => .inl h⟩

theorem Rel.grown (R : C.Rel ow τ t σ H) (g : Grow H H') : C.Rel ow τ t σ H' where
  on := Z.loc t H H' R.on fun a o _ e => g a o e
  hid := R.hid
  hidT := R.hidT
  grow := fun a o e n => g a o (R.grow a o e n)
  len := R.len
  slot := fun i s e => (R.slot i s e).ext g.ext fun a h => ⟨h, by
    obtain ⟨_, o, e, _⟩ := R.new _ a h
    rw [e]
    exact g a o e⟩
  inj := R.inj
  new := fun i a h => by
    obtain ⟨h1, o, e, n⟩ := R.new i a h
    exact ⟨h1, o, g a o e, n⟩

theorem Rel.track (R : C.Rel ow τ t σ H) {a : Addr} (h : C.Hid ow a) : ∃ o, H a = some o ∧ ∀ xs, o ≠ .tup xs := by
  rcases h with h | ⟨i, h⟩
  · by_cases q : Z.hid a
    · exact Z.trk t H a R.on q
    · obtain ⟨o, e, n⟩ := R.hidT a h
      exact ⟨o, R.grow a o e q, n⟩
  · exact (R.new i a h).2
theorem Rel.nohid (R : C.Rel ow τ t σ H) {p : Addr} (h : H p = none) : ¬ C.Hid ow p := fun q => by
  obtain ⟨o, e, _⟩ := R.track q
  rw [h] at e
  cases e

/-- what an operation on data hands back: (d, true) a new object -/
def Gets (Z : Wd) (O : Addr → Prop) (H : Hp) (v : V) (H' : Hp) (z : D × Bool) : Prop :=
  match z.2 with
  | false => Grow H H' ∧ Den Z O H' v z.1
  | true => ∃ p o, v = .ref p ∧ H p = none ∧ H' = upd H p o ∧ Cont Z O H o z.1 ∧ ∀ xs, o ≠ .tup xs
def resOf (z : D × Bool) : Res := if z.2 then .f z.1 else .d z.1
def put (ow : Nat → Option Addr) (i : Nat) (p : Addr) : Nat → Option Addr := fun j => if j = i then some p else ow j
theorem put_same {ow : Nat → Option Addr} {i : Nat} {p : Addr} : put ow i p i = some p := if_pos rfl
theorem put_ne {ow : Nat → Option Addr} {i j : Nat} {p : Addr} (h : j ≠ i) : put ow i p j = ow j := if_neg h
theorem put_some {ow : Nat → Option Addr} {i j : Nat} {p a : Addr} (h : put ow i p j = some a) : (j = i ∧ a = p) ∨ (j ≠ i ∧ ow j = some a) := by
  unfold put at h
  split at h
  · cases h
    exact .inl ⟨by assumption, rfl⟩
  · exact .inr ⟨by assumption, h⟩
theorem hid_put {O₀ : Addr → Prop} {ow : Nat → Option Addr} {i : Nat} {a p : Addr} (h : Hid O₀ (put ow i p) a) : Hid O₀ ow a ∨ a = p := by
  rcases h with h | ⟨j, e⟩
  · exact .inl (.inl h)
  · rcases put_some e with ⟨_, h⟩ | ⟨_, h⟩
    · exact .inr h
    · exact .inl (.inr ⟨j, h⟩)
theorem ext_put {O₀ : Addr → Prop} {ow : Nat → Option Addr} {i : Nat} {H : Hp} {p : Addr} {o : HO} (h : H p = none) : Ext (Hid O₀ ow) H (Hid O₀ (put ow i p)) (upd H p o) :=
  ⟨fun a u e _ => Grow.new h a u e, fun a q => (hid_put q).imp id fun z => by rw [z]; exact h⟩
/-- a new object is laid and pending -/
theorem Rel.pend {p : Addr} {o : HO} (R : C.Rel ow τ t σ H) (h0 : ow 0 = none) (h : H p = none) (hn : ∀ xs, o ≠ .tup xs) : C.Rel (put ow 0 p) τ t σ (upd H p o) where
  on := Z.loc t H _ R.on fun a u _ e => Grow.new h a u e
  hid := R.hid
  hidT := R.hidT
  grow := fun a u e n => Grow.new h a u (R.grow a u e n)
  len := R.len
  slot := fun i s e => (R.slot i s e).ext (ext_put h) fun a q => ⟨by rw [put_ne (by omega)]; exact q, by
    obtain ⟨_, u, e, _⟩ := R.new _ a q
    rw [e]
    exact Grow.new h a u e⟩
  inj := fun i j a h1 h2 => by
    have old : ∀ i a, ow i = some a → a ≠ p := fun i a q z => by
      obtain ⟨_, u, e, _⟩ := R.new i a q
      rw [z, h] at e
      cases e
    rcases put_some h1 with ⟨e1, e2⟩ | ⟨_, e2⟩
    · rcases put_some h2 with ⟨e3, _⟩ | ⟨_, e4⟩
      · rw [e1, e3]
      · exact absurd e2 (old j a e4)
    · rcases put_some h2 with ⟨_, e3⟩ | ⟨_, e4⟩
      · exact absurd e3 (old i a e2)
      · exact R.inj i j a e2 e4
  new := fun i a q => by
    rcases put_some q with ⟨_, e⟩ | ⟨_, e⟩
    · subst e
      refine ⟨?_, o, upd_same, hn⟩
      cases z : C.H a with
      | none => rfl
      | some u =>
        by_cases g : Z.hid a
        · obtain ⟨u', e', _⟩ := Z.trk t H a R.on g
          rw [h] at e'
          cases e'
        · have := R.grow a u z g
          rw [h] at this
          cases this
    · obtain ⟨h1, u, e2, n⟩ := R.new i a e
      exact ⟨h1, u, Grow.new h a u e2, n⟩
theorem Rel.gets {H' : Hp} {v : V} {z : D × Bool} (R : C.Rel ow τ t σ H) (h0 : ow 0 = none) (g : Gets Z (C.Hid ow) H v H' z) :
    ∃ ow', C.Rel ow' τ t σ H' ∧ ResOk C ow' τ σ H' v (resOf z) ∧ Ext (C.Hid ow) H (C.Hid ow') H' := by
  obtain ⟨d, fr⟩ := z
  cases fr with
  | false => exact ⟨ow, R.grown g.1, ⟨h0, g.2⟩, g.1.ext⟩
  | true =>
    obtain ⟨p, o, rfl, h, rfl, c, n⟩ := g
    exact ⟨put ow 0 p, R.pend h0 h n, ⟨p, o, put_same, rfl, upd_same, c.ext (ext_put h)⟩, ext_put h⟩

/-! ### results used -/
/-- what a result holds, without sharing it -/
def peek (τ : List Sl) : Res → Option D
  | .d d => some d
  | .f d => some d
  | .s i => match τ[i]? with
    | some (.v d) => some d
    | some (.o d) => some d
    | _ => none
/-- a result as a datum for others -/
def give (τ : List Sl) : Res → Option (D × List Sl)
  | .d d => some (d, τ)
  | .f d => some (d, τ)
  | .s i => match τ[i]? with
    | some (.v d) => some (d, τ)
    | some (.o d) => some (d, τ.set i (.v d))
    | _ => none
/-- a result that waits while another expression runs -/
def hold : Res → Res
  | .f d => .d d
  | r => r
/-- a value shows a datum: it may be one's own -/
inductive Shows (Z : Wd) (O : Addr → Prop) (H : Hp) : V → D → Prop
  | den {v : V} {d : D} : Den Z O H v d → Shows Z O H v d
  | own {a : Addr} {o : HO} {d : D} : H a = some o → (∀ xs, o ≠ .tup xs) → Cont Z O H o d → Shows Z O H (.ref a) d
theorem ResOk.peek {d : D} (R : C.Rel ow τ t σ H) (h : ResOk C ow τ σ H v r) (e : FD.peek τ r = some d) : Shows Z (C.Hid ow) H v d := by
  cases r with
  | d _ =>
    cases e
    exact .den h.2
  | f _ =>
    cases e
    obtain ⟨a, o, h1, rfl, h3, c⟩ := h
    obtain ⟨_, u, e1, n⟩ := R.new _ a h1
    rw [h3] at e1
    cases e1
    exact .own h3 n c
  | s i =>
    obtain ⟨_, h2⟩ := h
    simp only [FD.peek] at e
    cases h3 : τ[i]? with
    | none => rw [h3] at e; cases e
    | some s =>
      have q := R.slot i s h3
      rw [h3] at e
      cases s with
      | no => cases e
      | x => cases e
      | v _ =>
        cases e
        obtain ⟨v', e1, q⟩ := q
        rw [h2] at e1
        cases e1
        exact .den q
      | o _ =>
        cases e
        obtain ⟨a, o, e1, e2, e3, c⟩ := q
        rw [h2] at e2
        cases e2
        obtain ⟨_, u, e4, n⟩ := R.new _ a e1
        rw [e3] at e4
        cases e4
        exact .own e3 n c
theorem ResOk.hold (R : C.Rel ow τ t σ H) (h : ResOk C ow τ σ H v r) : ∃ ow', C.Rel ow' τ t σ H ∧ ow' 0 = none ∧ ResOk C ow' τ σ H v (FD.hold r) ∧ Ext (C.Hid ow) H (C.Hid ow') H := by
  cases r with
  | d _ => exact ⟨ow, R, h.1, h, .refl⟩
  | s _ => exact ⟨ow, R, h.1, h, .refl⟩
  | f _ =>
    obtain ⟨a, o, h1, rfl, h3, c⟩ := h
    exact ⟨drop ow 0, R.release, drop_same, ⟨drop_same, .ref h3 (R.open_ h1) (c.ext ext_drop)⟩, ext_drop⟩
/-- what was held, later -/
theorem ResOk.later {ow' : Nat → Option Addr} {τ' : List Sl} {t' : Z.T} {H' : Hp} (R' : C.Rel ow' τ' t' σ H') (h : ResOk C ow τ σ H v (FD.hold r)) (x : Ext (C.Hid ow) H (C.Hid ow') H') {d : D} (e : FD.peek τ' (FD.hold r) = some d) :
    Shows Z (C.Hid ow') H' v d := by
  cases r with
  | d _ =>
    cases e
    exact .den (h.2.ext x)
  | f _ =>
    cases e
    exact .den (h.2.ext x)
  | s i =>
    obtain ⟨_, h2⟩ := h
    simp only [FD.hold, FD.peek] at e
    cases h3 : τ'[i]? with
    | none => rw [h3] at e; cases e
    | some s =>
      have q := R'.slot i s h3
      rw [h3] at e
      cases s with
      | no => cases e
      | x => cases e
      | v _ =>
        cases e
        obtain ⟨v', e1, q⟩ := q
        rw [h2] at e1
        cases e1
        exact .den q
      | o _ =>
        cases e
        obtain ⟨a, o, e1, e2, e3, c⟩ := q
        rw [h2] at e2
        cases e2
        obtain ⟨_, u, e4, n⟩ := R'.new _ a e1
        rw [e3] at e4
        cases e4
        exact .own e3 n c
theorem ResOk.give {d : D} {τ' : List Sl} (R : C.Rel ow τ t σ H) (h : ResOk C ow τ σ H v r) (e : FD.give τ r = some (d, τ')) :
    ∃ ow', C.Rel ow' τ' t σ H ∧ ow' 0 = none ∧ Den Z (C.Hid ow') H v d ∧ Ext (C.Hid ow) H (C.Hid ow') H := by
  cases r with
  | d _ =>
    cases e
    exact ⟨ow, R, h.1, h.2, .refl⟩
  | f _ =>
    cases e
    obtain ⟨a, o, h1, rfl, h3, c⟩ := h
    exact ⟨drop ow 0, R.release, drop_same, .ref h3 (R.open_ h1) (c.ext ext_drop), ext_drop⟩
  | s i =>
    obtain ⟨h1, h2⟩ := h
    simp only [FD.give] at e
    cases h3 : τ[i]? with
    | none => rw [h3] at e; cases e
    | some s =>
      have q := R.slot i s h3
      rw [h3] at e
      cases s with
      | no => cases e
      | x => cases e
      | v _ =>
        cases e
        obtain ⟨v', e1, q⟩ := q
        rw [h2] at e1
        cases e1
        exact ⟨ow, R, h1, q, .refl⟩
      | o _ =>
        cases e
        obtain ⟨a, o, e1, e2, e3, c⟩ := q
        rw [h2] at e2
        cases e2
        exact ⟨drop ow (i + 1), R.share h3, by rw [drop_ne (by omega)]; exact h1, .ref e3 (R.open_ e1) (c.ext ext_drop), ext_drop⟩
end
end FD

/-! F2: names, constants, operators, comparisons, tests. -/
namespace FD
open PySem PySem.Spec PyProof.Rows L2

/-- what is left to run, from where one stands -/
def Kn {Z : Wd} (C : Fx Z) (f : EF Z.T) (ow : Nat → Option Addr) (τ : List Sl) (t : Z.T) (σ : L2.St) (H : Hp) (Q : VK) : Prop := ∃ o s', f (τ, t) = some (o, s') ∧ Fin C ow σ H Q s' o

def bindF {T : Type} (f : EF T) (k : Res → EF T) : EF T := fun s => match f s with
  | none => none
  | some (.ex c fs, s1) => some (.ex c fs, s1)
  | some (.ok r, s1) => k r s1
/-- an operation on what the results hold -/
def doneF {T : Type} (g : List Sl → Option (D × Bool)) : EF T := fun s => match g s.1 with
  | none => none
  | some z => some (.ok (resOf z), s)

section
variable {Z : Wd} {C : Fx Z} {ow ow' : Nat → Option Addr} {τ : List Sl} {t : Z.T} {σ : L2.St} {H H' : Hp} {Q : VK} {f : EF Z.T} {k : Res → EF Z.T}
theorem Fin.from (x : Ext (C.Hid ow) H (C.Hid ow') H') {s' : Sg Z.T} {o : Out} (h : Fin C ow σ H Q s' o) : Fin C ow' σ H' Q s' o := by
  cases o with
  | ok r => exact fun ow2 v H2 R2 r2 x2 => h ow2 v H2 R2 r2 (x.trans x2)
  | ex c fs => exact fun ow2 d H2 R2 z x2 e => h ow2 d H2 R2 z (x.trans x2) e
theorem Kn.from (x : Ext (C.Hid ow) H (C.Hid ow') H') (h : Kn C f ow τ t σ H Q) : Kn C f ow' τ t σ H' Q := by
  obtain ⟨o, s', e, h⟩ := h
  exact ⟨o, s', e, h.from x⟩
theorem tF.at_ (h : tF C f σ H Q) : ∃ ow τ t, C.Rel ow τ t σ H ∧ ow 0 = none ∧ Kn C f ow τ t σ H Q := by
  obtain ⟨ow, τ, t, o, s', R, h0, e, h⟩ := h
  exact ⟨ow, τ, t, R, h0, o, s', e, h⟩
theorem tF_mono {Q' : VK} (h : tF C f σ H Q) (k : ∀ v H, Q v H → Q' v H) : tF C f σ H Q' := by
  obtain ⟨ow, τ, t, o, s', R, h0, e, h⟩ := h
  refine ⟨ow, τ, t, o, s', R, h0, e, ?_⟩
  cases o with
  | ok r => exact fun ow' v H' R' r' x => k v H' (h ow' v H' R' r' x)
  | ex c fs => exact h
theorem Kn.tF (h : Kn C f ow τ t σ H Q) (R : C.Rel ow τ t σ H) (h0 : ow 0 = none) : FD.tF C f σ H Q := by
  obtain ⟨o, s', e, h⟩ := h
  exact ⟨ow, τ, t, o, s', R, h0, e, h⟩
/-- behind the first of two -/
def Behind {Z : Wd} (C : Fx Z) (k : Res → EF Z.T) (ow : Nat → Option Addr) (σ : L2.St) (H : Hp) (Q : VK) (v : V) (H1 : Hp) : Prop :=
  ∃ ow1 τ1 t1 r, C.Rel ow1 τ1 t1 σ H1 ∧ ResOk C ow1 τ1 σ H1 v r ∧ Kn C (k r) ow1 τ1 t1 σ H1 Q ∧ Ext (C.Hid ow) H (C.Hid ow1) H1
theorem Kn.bind (h : Kn C (bindF f k) ow τ t σ H Q) (R : C.Rel ow τ t σ H) (h0 : ow 0 = none) : FD.tF C f σ H (Behind C k ow σ H Q) := by
  obtain ⟨o, s', e, h⟩ := h
  unfold bindF at e
  cases q : f (τ, t) with
  | none => rw [q] at e; cases e
  | some z =>
    obtain ⟨o1, s1⟩ := z
    rw [q] at e
    cases o1 with
    | ex c fs =>
      cases e
      exact ⟨ow, τ, t, _, _, R, h0, q, h⟩
    | ok r => exact ⟨ow, τ, t, _, _, R, h0, q, fun ow1 v H1 R1 r1 x1 => ⟨ow1, s1.1, s1.2, r, R1, r1, ⟨o, s', e, h.from x1⟩, x1⟩⟩
theorem Kn.done {g : List Sl → Option (D × Bool)} (h : Kn C (doneF g) ow τ t σ H Q) (R : C.Rel ow τ t σ H) (h0 : ow 0 = none) : ∃ z, g τ = some z ∧ ∀ v H', Gets Z (C.Hid ow) H v H' z → Q v H' := by
  obtain ⟨o, s', e, h⟩ := h
  unfold doneF at e
  cases q : g τ with
  | none => simp only [q] at e; cases e
  | some z =>
    simp only [q] at e
    cases e
    refine ⟨z, rfl, fun v H' g => ?_⟩
    obtain ⟨ow', R', r', x⟩ := R.gets h0 g
    exact h ow' v H' R' r' x
end

/-- an operation of two data -/
def rD2 (Z : Wd) (op : D → D → Option (D × Bool)) : R2 := fun x y H Q => ∃ O dx dy z, (∀ p, H p = none → ¬ O p) ∧ Shows Z O H x dx ∧ Shows Z O H y dy ∧ op dx dy = some z ∧ ∀ v H', Gets Z O H v H' z → Q v H'
def OpD (Z : Wd) (X : Cx) (f : Value → Value → Sem Value) (op : D → D → Option (D × Bool)) : Prop := OpR X f (rD2 Z op)
def binF {T : Type} (op : D → D → Option (D × Bool)) (fa fb : EF T) : EF T := bindF fa fun ra => bindF fb fun rb => doneF fun τ => match peek τ (hold ra), peek τ (hold rb) with
  | some x, some y => op x y
  | _, _ => none

section
variable {Z : Wd} {C : Fx Z} {X : Cx} {a b e : Expr} {fa fb fc : EF Z.T} {pos : Pos}
theorem tOp_of {op : D → D → Option (D × Bool)} {σ : L2.St} {H : Hp} {Q : VK} (h : tF C (binF op fa fb) σ H Q) : tOp (rD2 Z op) (tF C fa) (tF C fb) σ H Q := by
  obtain ⟨ow, τ, t, R, h0, h⟩ := h.at_
  refine tF_mono (h.bind R h0) fun x H1 ⟨ow1, τ1, t1, ra, R1, r1, h1, _⟩ => ?_
  obtain ⟨ow1', R1', z1, r1', x1⟩ := r1.hold R1
  refine tF_mono ((h1.from x1).bind R1' z1) fun y H2 ⟨ow2, τ2, t2, rb, R2, r2, h2, x2⟩ => ?_
  obtain ⟨ow3, R3, z3, r3, x3⟩ := r2.hold R2
  obtain ⟨z, e, q⟩ := (h2.from x3).done R3 z3
  cases pa : peek τ2 (hold ra) with
  | none => simp only [pa] at e; cases e
  | some dx =>
    cases pb : peek τ2 (hold rb) with
    | none => simp only [pa, pb] at e; cases e
    | some dy =>
      simp only [pa, pb] at e
      exact ⟨_, dx, dy, z, fun p hp => R3.nohid hp, r1'.later R3 (x2.trans x3) pa, r3.peek R3 pb, e, q⟩
theorem ev_bin {op : Operator} {g : D → D → Option (D × Bool)} (ho : OpD Z X (binaryOp op) g) (ha : PE X a (tF C fa)) (hb : PE X b (tF C fb)) : PE X (.BinOp a op b pos) (tF C (binF g fa fb)) :=
  ⟨fun pins s σ H Q I h => (pe_op ho ha hb).run pins s σ H Q I (tOp_of h)⟩
theorem ev_cmp {op : CmpOp} {g : D → D → Option (D × Bool)} (ho : OpD Z X (compareOp op) g) (ha : PE X a (tF C fa)) (hb : PE X b (tF C fb)) (hm : behindInMarks op b = false) : PE X (.Compare a [op] [b] pos) (tF C (binF g fa fb)) :=
  ⟨fun pins s σ H Q I h => (pe_cmpR ho ha hb hm).run pins s σ H Q I (tOp_of h)⟩

/-! ### names, constants -/
def varF {T : Type} (i : Nat) : EF T := fun s => match s.1[i]? with
  | some (.v _) => some (.ok (.s i), s)
  | some (.o _) => some (.ok (.s i), s)
  | _ => none
def conF {T : Type} (d : D) : EF T := fun s => some (.ok (.d d), s)
theorem ev_var {i : Nat} (he : PE X e (tVar i)) : PE X e (tF C (varF i)) := ⟨fun pins s σ H Q I h => he.run pins s σ H Q I (by
  obtain ⟨ow, τ, t, o, s', R, h0, e, h⟩ := h
  unfold varF at e
  cases q : τ[i]? with
  | none => simp only [q] at e; cases e
  | some sl =>
    have ok := R.slot i sl q
    cases sl with
    | no => simp only [q] at e; cases e
    | x => simp only [q] at e; cases e
    | v d =>
      simp only [q] at e
      cases e
      obtain ⟨v, e1, _⟩ := ok
      exact ⟨v, e1, h ow v H R ⟨h0, e1⟩ .refl⟩
    | o d =>
      simp only [q] at e
      cases e
      obtain ⟨a, u, _, e1, _⟩ := ok
      exact ⟨.ref a, e1, h ow _ H R ⟨h0, e1⟩ .refl⟩)⟩
/-- a constant: flat data alone -/
theorem ev_con {v : V} {d : D} (he : PE X e (tC v)) (hd : ∀ O H, Den Z O H v d) : PE X e (tF C (conF d)) := ⟨fun pins s σ H Q I h => he.run pins s σ H Q I (by
  obtain ⟨ow, τ, t, o, s', R, h0, e, h⟩ := h
  cases e
  exact h ow v H R ⟨h0, hd _ _⟩ .refl)⟩
theorem ev_int {i : Int} {j : Nat} : PE X (.Constant (.int i) j pos) (tF C (conF (.int i))) := ev_con pe_int fun _ _ => .int i
theorem ev_bl {i : Bool} {j : Nat} : PE X (.Constant (.bool i) j pos) (tF C (conF (.bl i))) := ev_con pe_bl fun _ _ => .bl i
theorem ev_non {j : Nat} : PE X (.Constant .none j pos) (tF C (conF .non)) := ev_con pe_non fun _ _ => .non
theorem ev_str {i : Str} {j : Nat} : PE X (.Constant (.str i) j pos) (tF C (conF (.str i))) := ev_con pe_str fun _ _ => .str i

/-! ### one operand -/
def rD1 (Z : Wd) (op : D → Option (D × Bool)) : V → Hp → VK → Prop := fun x H Q => ∃ O dx z, (∀ p, H p = none → ¬ O p) ∧ Shows Z O H x dx ∧ op dx = some z ∧ ∀ v H', Gets Z O H v H' z → Q v H'
def UnD (Z : Wd) (X : Cx) (f : Value → Sem Value) (op : D → Option (D × Bool)) : Prop := UnR X f (rD1 Z op)
def unF {T : Type} (op : D → Option (D × Bool)) (fa : EF T) : EF T := bindF fa fun ra => doneF fun τ => match peek τ (hold ra) with
  | some x => op x
  | none => none
theorem tUn_of {op : D → Option (D × Bool)} {σ : L2.St} {H : Hp} {Q : VK} (h : tF C (unF op fa) σ H Q) : tUn (rD1 Z op) (tF C fa) σ H Q := by
  obtain ⟨ow, τ, t, R, h0, h⟩ := h.at_
  refine tF_mono (h.bind R h0) fun x H1 ⟨ow1, τ1, t1, ra, R1, r1, h1, _⟩ => ?_
  obtain ⟨ow1', R1', z1, r1', x1⟩ := r1.hold R1
  obtain ⟨z, e, q⟩ := (h1.from x1).done R1' z1
  cases pa : peek τ1 (hold ra) with
  | none => simp only [pa] at e; cases e
  | some dx =>
    simp only [pa] at e
    exact ⟨_, dx, z, fun p hp => R1'.nohid hp, r1'.peek R1' pa, e, q⟩
theorem ev_un {op : UnaryOp} {g : D → Option (D × Bool)} (ho : UnD Z X (unaryOp op) g) (ha : PE X a (tF C fa)) : PE X (.UnaryOp op a pos) (tF C (unF g fa)) :=
  ⟨fun pins s σ H Q I h => (pe_un ho ha).run pins s σ H Q I (tUn_of h)⟩
end
end FD

set_option maxHeartbeats 1000000
/-! F2b: a tuple, once or not at all. -/
namespace FD
open PySem PySem.Spec PyProof.Rows L2
theorem mulT1 (l : Addr) (items : Array Value) (n : Nat) (dd : Option Addr) (sl : Array (Option Value)) (x : Int) (u : Tok) (c0 : (decide (x < -(2 ^ 63)) || decide (x ≥ 2 ^ 63)) = false) (c1 : (items.isEmpty || x == 1) = true) :
    Meets (Builtin.«tuple.__mul__» ⟨[.ref l, .int x u], []⟩) (fun _ R s => s.heap.get? l = some { cls := .type "tuple", dict := dd, data := .seq items n, slots := sl } ∧ R (.ok (.ret (.ref l))) s) :=
  .of_wp fun prog w A R s h => by
    obtain ⟨hp, g, d, tk, os⟩ := s
    obtain ⟨hl, h⟩ := h
    have f1 := AutoSeq1.idx_int
    wp_walk using wpAny_loadPart' hl
    refine wpAny_ite_false (decide_eq_false (by rw [c0]; exact Bool.false_ne_true)) ?_
    wp_walk using wpAny_loadPart' hl
    exact ⟨_, rfl, h⟩
theorem mulT0 (l : Addr) (items : Array Value) (n : Nat) (dd : Option Addr) (sl : Array (Option Value)) (x : Int) (u : Tok) (c0 : (decide (x < -(2 ^ 63)) || decide (x ≥ 2 ^ 63)) = false) (c1 : (items.isEmpty || x == 1) = false) (c2 : (decide (x ≤ 0) || items.isEmpty) = true) :
    Meets (Builtin.«tuple.__mul__» ⟨[.ref l, .int x u], []⟩) (fun _ R s => s.heap.get? l = some { cls := .type "tuple", dict := dd, data := .seq items n, slots := sl } ∧
      R (.ok (.ret (Value.ref s.heap.objs.size))) { s with heap := s.heap.push { cls := Value.type "tuple", data := Data.seq #[] }, toks := s.toks }) :=
  .of_wp fun prog w A R s h => by
    obtain ⟨hp, g, d, tk, os⟩ := s
    obtain ⟨hl, h⟩ := h
    have f1 := AutoSeq1.idx_int
    wp_walk using wpAny_loadPart' hl
    refine wpAny_ite_false (decide_eq_false (by rw [c0]; exact Bool.false_ne_true)) ?_
    wp_walk using wpAny_loadPart' hl
    repeat (first
      | (refine wpAny_ite_false (decide_eq_false (by rw [c1]; exact Bool.false_ne_true)) ?_; wp_walk using wpAny_loadPart' hl)
      | (refine wpAny_ite_true (decide_eq_true (by rw [c2])) ?_; wp_walk using wpAny_loadPart' hl))
    exact ⟨_, rfl, h⟩
def rRep1 (K : PySem.W.Frag) : R2 := fun x y H Q => ∃ l xs, x = .ref l ∧ y = .int 1 ∧ SqT K H l xs ∧ Q (.ref l) H
def rRep0 (K : PySem.W.Frag) : R2 := fun x y H Q => ∃ l k xs, x = .ref l ∧ y = .int k ∧ SqT K H l xs ∧ xs ≠ [] ∧ -1000 ≤ k ∧ k ≤ 0 ∧ ∀ p, H p = none → Q (.ref p) (upd H p (.tup []))
section
variable {X : Cx}
theorem op_rep1 : OpR X (binaryOp .Mult) (rRep1 X.K) := by
  intro pins s σ H x y v u Q I rx ry h
  obtain ⟨l, xs, rfl, rfl, hT, q⟩ := h
  cases rx
  obtain ⟨t, rfl⟩ := ry
  obtain ⟨its, r, ⟨⟨cls, dd, data, sl⟩, ho, hc, n, hd⟩, _⟩ := I.tuple hT
  simp only at hc hd
  subst hc hd
  exact wpAny_binaryOp_repeat_ref (T := "tuple") (U := "int") (by decide) ⟨_, ho, rfl⟩ (fun s' => typeIs_int s' 1 t) noFill_tuple_mul F.fills_int_mul F.slot_int_rmul repeat_tuple F.slot_int_index.lookup
    (call_meets F.slot_int_rmul (typeIs_int s 1 t) F.entry_int_rmul (F.args_int_rmul_2 _ _) (int_rmul_tuple 1 t l its.toArray n dd sl)
      ⟨ho, rfl, ⟨_, ho, rfl⟩, call_meets F.slot_tuple_mul ⟨_, ho, rfl⟩ F.entry_tuple_mul (F.args_tuple_mul_2 _ _) (mulT1 l its.toArray n dd sl 1 t (by decide) (by simp)) ⟨ho, .ref l, H, I, rfl, q⟩⟩)
theorem op_rep0 : OpR X (binaryOp .Mult) (rRep0 X.K) := by
  intro pins s σ H x y v u Q I rx ry h
  obtain ⟨l, k, xs, rfl, rfl, hT, hne, h1, h2, q⟩ := h
  cases rx
  obtain ⟨t, rfl⟩ := ry
  obtain ⟨its, r, ⟨⟨cls, dd, data, sl⟩, ho, hc, n, hd⟩, _⟩ := I.tuple hT
  simp only at hc hd
  subst hc hd
  have hi : its.toArray.isEmpty = false := by
    cases its with
    | nil => exact absurd (List.eq_nil_of_length_eq_zero (r.length.trans rfl)) hne
    | cons a b => rfl
  have c0 : (decide (k < -(2 ^ 63)) || decide (k ≥ 2 ^ 63)) = false := by
    rw [decide_eq_false (by omega), decide_eq_false (by omega)] <;> rfl
  have c1 : (its.toArray.isEmpty || k == 1) = false := by
    rw [hi, Bool.false_or]
    exact beq_eq_false_iff_ne.mpr (by omega)
  have c2 : (decide (k ≤ 0) || its.toArray.isEmpty) = true := by
    rw [hi, Bool.or_false]
    exact decide_eq_true h2
  refine wpAny_binaryOp_repeat_ref (T := "tuple") (U := "int") (by decide) ⟨_, ho, rfl⟩ (fun s' => typeIs_int s' k t) noFill_tuple_mul F.fills_int_mul F.slot_int_rmul repeat_tuple F.slot_int_index.lookup
    (call_meets F.slot_int_rmul (typeIs_int s k t) F.entry_int_rmul (F.args_int_rmul_2 _ _) (int_rmul_tuple k t l its.toArray n dd sl)
      ⟨ho, rfl, ⟨_, ho, rfl⟩, call_meets F.slot_tuple_mul ⟨_, ho, rfl⟩ F.entry_tuple_mul (F.args_tuple_mul_2 _ _) (mulT0 l its.toArray n dd sl k t c0 c1 c2) ⟨ho, ?_⟩⟩)
  refine ⟨.ref s.heap.objs.size, _, I.laid (t' := s.toks) (o := .tup []) (fun b ob q => Heap.get?_push_of_some _ q) (Nat.le_refl _) ?_, rfl, q _ (I.hok.fresh (Nat.le_refl _))⟩
  exact ⟨Nat.zero_le _, [], .nil, IsTup.new _ _⟩
end
end FD

/-! F3: the operators on data. -/
namespace FD
open PySem PySem.Spec PyProof.Rows L2

section
variable {Z : Wd} {O : Addr → Prop} {H : Hp} {v : V}
theorem Shows.int {i : Int} (h : Shows Z O H v (.int i)) : v = .int i := by
  cases h with
  | den h => cases h with
    | int => rfl
    | ref e n c => cases c
  | own e n c => cases c
theorem Shows.bl {i : Bool} (h : Shows Z O H v (.bl i)) : v = .bl i := by
  cases h with
  | den h => cases h with
    | bl => rfl
    | ref e n c => cases c
  | own e n c => cases c
theorem Shows.str {i : Str} (h : Shows Z O H v (.str i)) : v = .str i := by
  cases h with
  | den h => cases h with
    | str => rfl
    | ref e n c => cases c
  | own e n c => cases c
theorem Shows.non (h : Shows Z O H v .non) : v = .non := by
  cases h with
  | den h => cases h with
    | non => rfl
    | ref e n c => cases c
  | own e n c => cases c
theorem Shows.ty {n : String} (h : Shows Z O H v (.ty n)) : v = .ty n := by
  cases h with
  | den h => cases h with
    | ty => rfl
    | ref e n c => cases c
  | own e n c => cases c
theorem Shows.lst {ds : List D} (h : Shows Z O H v (.lst ds)) : ∃ a xs, v = .ref a ∧ H a = some (.lst xs) ∧ DenA Z O H xs ds := by
  cases h with
  | den h => cases h with
    | ref e n c => cases c with
      | lst c => exact ⟨_, _, rfl, e, c⟩
  | own e n c => cases c with
    | lst c => exact ⟨_, _, rfl, e, c⟩
theorem Shows.tup {ds : List D} (h : Shows Z O H v (.tup ds)) : ∃ a xs, v = .ref a ∧ H a = some (.tup xs) ∧ DenA Z O H xs ds ∧ ¬ O a := by
  cases h with
  | den h => cases h with
    | ref e n c => cases c with
      | tup c => exact ⟨_, _, rfl, e, c, n⟩
  | own e n c => cases c with
    | tup c => exact absurd rfl (n _)
theorem Shows.obj {k : Str} {fs : List (Str × D)} (h : Shows Z O H v (.obj k fs)) : ∃ a dx xs, v = .ref a ∧ H a = some (.ins (Z.ca k) dx xs) ∧ DenF Z O H xs fs := by
  cases h with
  | den h => cases h with
    | ref e n c => cases c with
      | obj c => exact ⟨_, _, _, rfl, e, c⟩
  | own e n c => cases c with
    | obj c => exact ⟨_, _, _, rfl, e, c⟩
theorem Shows.dct {fs : List (Key × D)} (h : Shows Z O H v (.dct fs)) : ∃ a xs, v = .ref a ∧ H a = some (.dK xs) ∧ DenK Z O H xs fs := by
  cases h with
  | den h => cases h with
    | ref e n c => cases c with
      | dct c => exact ⟨_, _, rfl, e, c⟩
  | own e n c => cases c with
    | dct c => exact ⟨_, _, rfl, e, c⟩
theorem DenA.ints : ∀ {vs : List V} {ns : List Int}, DenA Z O H vs (ns.map D.int) → vs = ns.map V.int
  | _, [], .nil => rfl
  | _, n :: r, .cons h k => by
    rw [(Shows.den h).int, DenA.ints k]
    rfl
/-- new objects -/
theorem Gets.lst {p : Addr} {xs : List V} {ds : List D} (hp : H p = none) (h : DenA Z O H xs ds) : Gets Z O H (.ref p) (upd H p (.lst xs)) (.lst ds, true) :=
  ⟨p, _, rfl, hp, rfl, .lst h, fun _ z => by cases z⟩
theorem Gets.tup {p : Addr} {xs : List V} {ds : List D} (hO : ∀ p, H p = none → ¬ O p) (hp : H p = none) (h : DenA Z O H xs ds) : Gets Z O H (.ref p) (upd H p (.tup xs)) (.tup ds, false) :=
  ⟨Grow.new hp, .ref upd_same (hO p hp) (.tup (h.mono fun a o e n => ⟨Grow.new hp a o e, n⟩))⟩
theorem Gets.same {d : D} (h : Den Z O H v d) : Gets Z O H v H (d, false) := ⟨Grow.refl, h⟩
end

/-! ### equality -/
mutual
def okD : Nat → D → Bool
  | _, .non | _, .bl _ | _, .int _ => true
  | _, .str x => PyData.canLay0 (.str x)
  | n + 1, .tup ds => okAll n ds
  | n + 1, .lst ds => okAll n ds
  | _, _ => false
def okAll : Nat → List D → Bool
  | _, [] => true
  | n, d :: ds => okD n d && okAll n ds
end
mutual
def py : D → PyData
  | .non => .none
  | .bl b => .bool b
  | .int i => .int i
  | .str x => .str x
  | .tup ds => .tuple (pys ds)
  | .lst ds => .list (pys ds)
  | _ => .none
def pys : List D → List PyData
  | [] => []
  | d :: ds => py d :: pys ds
end
mutual
theorem okD_lay : ∀ (n : Nat) (d : D), okD n d = true → (py d).canLay0 = true
  | _, .non, _ => by simp [py, PyData.canLay0]
  | _, .bl _, _ => by simp [py, PyData.canLay0]
  | _, .int _, _ => by simp [py, PyData.canLay0]
  | n, .str x, h => by cases n <;> simpa [okD, py] using h
  | 0, .tup _, h => by simp [okD] at h
  | 0, .lst _, h => by simp [okD] at h
  | n + 1, .tup ds, h => by
    simp only [py, PyData.canLay0]
    exact okAll_lay n ds (by simpa [okD] using h)
  | n + 1, .lst ds, h => by
    simp only [py, PyData.canLay0]
    exact okAll_lay n ds (by simpa [okD] using h)
  | n, .dct _, h => by cases n <;> simp [okD] at h
  | n, .obj _ _, h => by cases n <;> simp [okD] at h
  | n, .ty _, h => by cases n <;> simp [okD] at h
  | n, .hnd _, h => by cases n <;> simp [okD] at h
  | n, .fn _, h => by cases n <;> simp [okD] at h
theorem okAll_lay : ∀ (n : Nat) (d : List D), okAll n d = true → PyData.canLayAll0 (pys d) = true
  | _, [], _ => by simp [pys, PyData.canLayAll0]
  | n, d :: ds, h => by
    simp only [okAll, Bool.and_eq_true] at h
    simp only [pys, PyData.canLayAll0, okD_lay n d h.1, okAll_lay n ds h.2, Bool.and_self]
end
mutual
theorem okD_depth : ∀ (n : Nat) (d : D), okD n d = true → (py d).depth ≤ n
  | _, .non, _ => by simp [py, PyData.depth]
  | _, .bl _, _ => by simp [py, PyData.depth]
  | _, .int _, _ => by simp [py, PyData.depth]
  | n, .str x, h => by simp [py, PyData.depth]
  | 0, .tup _, h => by simp [okD] at h
  | 0, .lst _, h => by simp [okD] at h
  | n + 1, .tup ds, h => by
    simp only [py, PyData.depth]
    have := okAll_depth n ds (by simpa [okD] using h)
    omega
  | n + 1, .lst ds, h => by
    simp only [py, PyData.depth]
    have := okAll_depth n ds (by simpa [okD] using h)
    omega
  | n, .dct _, h => by cases n <;> simp [okD] at h
  | n, .obj _ _, h => by cases n <;> simp [okD] at h
  | n, .ty _, h => by cases n <;> simp [okD] at h
  | n, .hnd _, h => by cases n <;> simp [okD] at h
  | n, .fn _, h => by cases n <;> simp [okD] at h
theorem okAll_depth : ∀ (n : Nat) (d : List D), okAll n d = true → PyData.depthAll (pys d) ≤ n
  | _, [], _ => by simp [pys, PyData.depthAll]
  | n, d :: ds, h => by
    simp only [okAll, Bool.and_eq_true] at h
    have h1 := okD_depth n d h.1
    have h2 := okAll_depth n ds h.2
    simp only [pys, PyData.depthAll]
    omega
end
theorem okD_shaped {d : D} (h : okD 64 d = true) : SeqAt.shaped (py d) = true := by
  unfold SeqAt.shaped
  rw [okD_lay 64 d h, Bool.true_and]
  exact decide_eq_true (okD_depth 64 d h)
section
variable {Z : Wd} {O : Addr → Prop} {H : Hp}
mutual
theorem Den.dp {K : PySem.W.Frag} : ∀ {n : Nat} {v : V} {d : D}, okD n d = true → Den Z O H v d → Dp K H v (py d)
  | _, _, _, _, .non => .non
  | _, _, _, _, .bl b => .bl b
  | _, _, _, _, .int i => .int i
  | _, _, _, _, .str x => .str x
  | n, .ty _, .ty _, h, .ty _ => by cases n <;> simp [okD] at h
  | n, _, .hnd _, h, .hnd _ => by cases n <;> simp [okD] at h
  | n, _, .fn _, h, .fn _ => by cases n <;> simp [okD] at h
  | n, _, _, h, .ref e m c => Cont.dp h e c
theorem Cont.dp {K : PySem.W.Frag} : ∀ {n : Nat} {a : Addr} {o : HO} {d : D}, okD n d = true → H a = some o → Cont Z O H o d → Dp K H (.ref a) (py d)
  | 0, _, _, _, h, e, .tup c => by simp [okD] at h
  | 0, _, _, _, h, e, .lst c => by simp [okD] at h
  | n + 1, _, _, .tup ds, h, e, .tup c => .tup (SqT.of e) (DenA.dp (n := n) (by simpa [okD] using h) c)
  | n + 1, _, _, .lst ds, h, e, .lst c => .lst (SqL.of e) (DenA.dp (n := n) (by simpa [okD] using h) c)
  | n, _, _, .dct _, h, e, .dct c => by cases n <;> simp [okD] at h
  | n, _, _, .obj _ _, h, e, .obj c => by cases n <;> simp [okD] at h
theorem DenA.dp {K : PySem.W.Frag} : ∀ {n : Nat} {vs : List V} {ds : List D}, okAll n ds = true → DenA Z O H vs ds → DpAll K H vs (pys ds)
  | _, _, _, _, .nil => .nil
  | n, _, d :: ds, h, .cons q r => by
    simp only [okAll, Bool.and_eq_true] at h
    exact .cons (Den.dp h.1 q) (DenA.dp h.2 r)
end
theorem Shows.dp {K : PySem.W.Frag} {v : V} {d : D} (h : okD 64 d = true) (s : Shows Z O H v d) : Dp K H v (py d) := by
  cases s with
  | den s => exact s.dp h
  | own e _ c => exact c.dp h e
end

abbrev LEN : Nat := 100000
theorem len_line {n : Nat} (h : n ≤ LEN) : n ≤ sizeLine := Nat.le_trans h (by decide)
/-- numbers that may be multiplied -/
def Fair (i : Int) : Prop := i.natAbs < 2 ^ 8000
instance (i : Int) : Decidable (Fair i) := inferInstanceAs (Decidable (_ < _))

def addD : D → D → Option (D × Bool)
  | .int i, .int j => some (.int (i + j), false)
  | .int i, .bl j => some (.int (i + b2i j), false)
  | .bl i, .int j => some (.int (b2i i + j), false)
  | .str x, .str y => if x.length + y.length ≤ LEN then some (.str (x ++ y), false) else none
  | .lst x, .lst y => if x.length + y.length ≤ LEN then some (.lst (x ++ y), true) else none
  | .tup x, .tup y => if x.length + y.length ≤ LEN then some (.tup (x ++ y), false) else none
  | _, _ => none
def subD : D → D → Option (D × Bool)
  | .int i, .int j => some (.int (i - j), false)
  | .bl i, .int j => some (.int (b2i i - j), false)
  | _, _ => none
def mulD : D → D → Option (D × Bool)
  | .int i, .int j => if Fair i ∧ Fair j then some (.int (i * j), false) else none
  | .lst x, .int k => if -1000 ≤ k ∧ k ≤ 1000 ∧ x.length ≤ 1000 ∧ x.length * k.toNat ≤ LEN then some (.lst (List.replicate k.toNat x).flatten, true) else none
  | .tup x, .int k => if x ≠ [] ∧ -1000 ≤ k ∧ k ≤ 1000 ∧ x.length ≤ 1000 then some (.tup (List.replicate k.toNat x).flatten, false) else none
  | _, _ => none
def powD : D → D → Option (D × Bool)
  | .int i, .int j => if 0 ≤ j ∧ j ≤ 1000 ∧ i.natAbs < 2 ^ 64 then some (.int (i ^ j.toNat), false) else none
  | _, _ => none

section
variable {Z : Wd} {X : Cx}
theorem DenA.reps {O : Addr → Prop} {H : Hp} {xs : List V} {ds : List D} (h : DenA Z O H xs ds) : ∀ k : Nat, DenA Z O H (List.replicate k xs).flatten (List.replicate k ds).flatten
  | 0 => .nil
  | k + 1 => by
    rw [List.replicate_succ, List.flatten_cons, List.replicate_succ, List.flatten_cons]
    exact h.app (DenA.reps h k)
theorem op_add_bi : OpR X (binaryOp .Add) (fun x y H Q => ∃ i k, x = .bl i ∧ y = .int k ∧ Q (.int (b2i i + k)) H) := by
  intro pins s σ H x y v u Q I rx ry h
  obtain ⟨i, k, rfl, rfl, q⟩ := h
  cases rx
  obtain ⟨t, rfl⟩ := ry
  exact IntBool.add_bool_int ⟨.int (b2i i + k), H, I.tok _, ⟨_, rfl⟩, q⟩
theorem op_sub_bi : OpR X (binaryOp .Sub) (fun x y H Q => ∃ i k, x = .bl i ∧ y = .int k ∧ Q (.int (b2i i - k)) H) := by
  intro pins s σ H x y v u Q I rx ry h
  obtain ⟨i, k, rfl, rfl, q⟩ := h
  cases rx
  obtain ⟨t, rfl⟩ := ry
  exact IntBool.sub_bool_int ⟨.int (b2i i - k), H, I.tok _, ⟨_, rfl⟩, q⟩
theorem opD_add : OpD Z X (binaryOp .Add) addD := by
  intro pins s σ H x y v u Q I rx ry h
  obtain ⟨O, dx, dy, z, hO, sx, sy, e, q⟩ := h
  unfold addD at e
  split at e
  · cases e
    cases sx.int; cases sy.int
    exact op_add pins s σ H _ _ v u Q I rx ry ⟨_, _, rfl, rfl, q _ _ (.same (.int _))⟩
  · cases e
    cases sx.int; cases sy.bl
    exact op_add_ib pins s σ H _ _ v u Q I rx ry ⟨_, _, rfl, rfl, q _ _ (.same (.int _))⟩
  · cases e
    cases sx.bl; cases sy.int
    exact op_add_bi pins s σ H _ _ v u Q I rx ry ⟨_, _, rfl, rfl, q _ _ (.same (.int _))⟩
  · split at e
    · rename_i hl
      cases e
      cases sx.str; cases sy.str
      exact op_add_str pins s σ H _ _ v u Q I rx ry ⟨_, _, rfl, rfl, len_line hl, q _ _ (.same (.str _))⟩
    · cases e
  · split at e
    · rename_i hl
      cases e
      obtain ⟨a, xs, rfl, h1, c1⟩ := sx.lst
      obtain ⟨b, ys, rfl, h2, c2⟩ := sy.lst
      exact op_cat pins s σ H _ _ v u Q I rx ry ⟨a, b, xs, ys, rfl, rfl, h1, h2, by rw [c1.len, c2.len]; exact len_line hl, fun p hp => q _ _ (.lst hp (c1.app c2))⟩
    · cases e
  · split at e
    · rename_i hl
      cases e
      obtain ⟨a, xs, rfl, h1, c1, n1⟩ := sx.tup
      obtain ⟨b, ys, rfl, h2, c2, n2⟩ := sy.tup
      refine op_catA pins s σ H _ _ v u Q I rx ry ⟨a, b, xs, ys, rfl, rfl, SqT.of h1, SqT.of h2, by rw [c1.len, c2.len]; exact len_line hl, ?_, ?_, ?_⟩
      · intro z
        subst z
        cases c1
        exact q _ _ (.same (.ref h2 n2 (.tup c2)))
      · intro _ z
        subst z
        cases c2
        rw [List.append_nil] at q
        exact q _ _ (.same (.ref h1 n1 (.tup c1)))
      · exact fun _ _ p hp => q _ _ (.tup hO hp (c1.app c2))
    · cases e
  · cases e
theorem opD_sub : OpD Z X (binaryOp .Sub) subD := by
  intro pins s σ H x y v u Q I rx ry h
  obtain ⟨O, dx, dy, z, hO, sx, sy, e, q⟩ := h
  unfold subD at e
  split at e
  · cases e
    cases sx.int; cases sy.int
    exact op_sub pins s σ H _ _ v u Q I rx ry ⟨_, _, rfl, rfl, q _ _ (.same (.int _))⟩
  · cases e
    cases sx.bl; cases sy.int
    exact op_sub_bi pins s σ H _ _ v u Q I rx ry ⟨_, _, rfl, rfl, q _ _ (.same (.int _))⟩
  · cases e
theorem opD_mul : OpD Z X (binaryOp .Mult) mulD := by
  intro pins s σ H x y v u Q I rx ry h
  obtain ⟨O, dx, dy, z, hO, sx, sy, e, q⟩ := h
  unfold mulD at e
  split at e
  · split at e
    · rename_i hc
      cases e
      cases sx.int; cases sy.int
      exact op_mulW pins s σ H _ _ v u Q I rx ry ⟨_, _, rfl, rfl, wide_mul hc.1 hc.2 (by decide) (by decide) (by decide), q _ _ (.same (.int _))⟩
    · cases e
  · split at e
    · rename_i hc
      cases e
      obtain ⟨a, xs, rfl, h1, c1⟩ := sx.lst
      cases sy.int
      exact op_rep pins s σ H _ _ v u Q I rx ry ⟨a, _, xs, rfl, rfl, h1, by omega, by omega, by rw [c1.len]; exact len_line hc.2.2.2, fun p hp => q _ _ (.lst hp (c1.reps _))⟩
    · cases e
  · split at e
    · rename_i hc
      cases e
      obtain ⟨a, xs, rfl, h1, c1, n1⟩ := sx.tup
      cases sy.int
      rename_i k
      have ne : xs ≠ [] := fun z => hc.1 (by subst z; cases c1; rfl)
      by_cases k1 : k = 1
      · subst k1
        refine op_rep1 pins s σ H _ _ v u Q I rx ry ⟨a, xs, rfl, rfl, SqT.of h1, q _ _ (.same ?_)⟩
        have e : (List.replicate (Int.toNat 1) ‹List D›).flatten = ‹List D› := by simp
        rw [e]
        exact .ref h1 n1 (.tup c1)
      by_cases k0 : k ≤ 0
      · refine op_rep0 pins s σ H _ _ v u Q I rx ry ⟨a, _, xs, rfl, rfl, SqT.of h1, ne, hc.2.1, k0, fun p hp => q _ _ (.tup hO hp ?_)⟩
        rw [Int.toNat_of_nonpos k0]
        exact .nil
      exact op_repT pins s σ H _ _ v u Q I rx ry ⟨a, _, xs, rfl, rfl, SqT.of h1, ne, by omega, hc.2.2.1, by rw [c1.len]; exact hc.2.2.2, fun p hp => q _ _ (.tup hO hp (c1.reps _))⟩
    · cases e
  · cases e
theorem opD_pow : OpD Z X (binaryOp .Pow) powD := by
  intro pins s σ H x y v u Q I rx ry h
  obtain ⟨O, dx, dy, z, hO, sx, sy, e, q⟩ := h
  unfold powD at e
  split at e
  · split at e
    · rename_i hc
      cases e
      cases sx.int; cases sy.int
      exact op_pow pins s σ H _ _ v u Q I rx ry ⟨_, _, rfl, rfl, ⟨hc.1, by omega, hc.2.2⟩, q _ _ (.same (.int _))⟩
    · cases e
  · cases e
/-! ### comparisons -/
def eqB (x y : D) : Bool := PyData.eqv (py x) (py y)
/-- what is told apart whatever the items are; two empty dicts -/
def eqX : D → D → Option (D × Bool)
  | .dct [], .dct [] => some (.bl true, false)
  | .tup (_ :: _), .tup [] => some (.bl false, false)
  | .lst (_ :: _), .lst [] => some (.bl false, false)
  | .tup _, .str _ => some (.bl false, false)
  | .lst _, .str _ => some (.bl false, false)
  | .dct _, .str _ => some (.bl false, false)
  | _, _ => none
def neX : D → D → Option (D × Bool)
  | .tup (_ :: _), .tup [] => some (.bl true, false)
  | .lst (_ :: _), .lst [] => some (.bl true, false)
  | _, _ => none
def eqD : D → D → Option (D × Bool)
  | .str a, .str b => some (.bl (decide (a = b)), false)
  | x, y => if okD 64 x = true ∧ okD 64 y = true then some (.bl (eqB x y), false) else eqX x y
def neD : D → D → Option (D × Bool)
  | .str a, .str b => some (.bl (!decide (a = b)), false)
  | x, y => if okD 64 x = true ∧ okD 64 y = true then some (.bl (!eqB x y), false) else neX x y
/-- a tuple of something, an empty one -/
theorem tup_nil {pins : List (Addr × Obj)} {s : Shared} {σ : L2.St} {H : Hp} {a b : Addr} {x : V} {xs : List V} (hu : X.A.units < cLine) (I : Inv X pins σ H s) (ha : SqT X.K H a (x :: xs)) (hb : SqT X.K H b []) :
    SeqAt.RcAt X.A s (.ref a) (.ref b) false ∧ SeqAt.RcNeAt X.A s (.ref a) (.ref b) true := by
  obtain ⟨its, r, pl, _⟩ := I.tuple ha
  obtain ⟨its2, r2, pl2, _⟩ := I.tuple hb
  cases r2
  have hl := r.length
  simp only [List.length_cons] at hl
  refine ⟨?_, ?_⟩
  · have := SeqAt.RcAt.tuples (e := fun _ => true) pl pl2 hu (fun j h1 h2 => by simp at h2)
    have e : ((List.range (min its.toArray.size ([] : List Value).toArray.size)).all (fun _ => true) && its.toArray.size == ([] : List Value).toArray.size) = false := by
      have : (its.toArray.size == ([] : List Value).toArray.size) = false := by simp; intro z; subst z; simp at hl
      rw [this, Bool.and_false]
    rw [e] at this
    exact this
  · have := SeqAt.RcNeAt.tuples (e := fun _ => true) pl pl2 hu (fun j h1 h2 => by simp at h2)
    have e : (!((List.range (min its.toArray.size ([] : List Value).toArray.size)).all (fun _ => true) && its.toArray.size == ([] : List Value).toArray.size)) = true := by
      have : (its.toArray.size == ([] : List Value).toArray.size) = false := by simp; intro z; subst z; simp at hl
      rw [this, Bool.and_false]
      rfl
    rw [e] at this
    exact this
theorem lst_nil {pins : List (Addr × Obj)} {s : Shared} {σ : L2.St} {H : Hp} {a b : Addr} {x : V} {xs : List V} (hu : X.A.units < cLine) (I : Inv X pins σ H s) (ha : SqL X.K H a (x :: xs)) (hb : SqL X.K H b []) :
    SeqAt.RcAt X.A s (.ref a) (.ref b) false ∧ SeqAt.RcNeAt X.A s (.ref a) (.ref b) true := by
  obtain ⟨its, r, pl, _⟩ := I.list ha
  obtain ⟨its2, r2, pl2, _⟩ := I.list hb
  cases r2
  have hl := r.length
  simp only [List.length_cons] at hl
  have hn : (its.toArray.size != ([] : List Value).toArray.size) = true := by
    simp
    intro z
    subst z
    simp at hl
  exact ⟨SeqAt.RcAt.lists_lengths pl.isList pl2.isList hn hu, SeqAt.RcNeAt.lists_lengths pl.isList pl2.isList hn hu⟩
theorem dec_strV (a b : Str) : decide (V.str a = V.str b) = decide (a = b) := by
  by_cases h : a = b
  · subst h; simp
  · rw [decide_eq_false h, decide_eq_false (fun z => h (V.str.inj z))]
section
open SeqAt
variable {A : Around} {s : Shared}
theorem str_eq_declines_dict (b : Str) (u : Tok) (l : Addr) (c : Value) (es : Array DictEntry) (ep : Nat) (dd : Option Addr) (sl : Array (Option Value)) :
    Meets (Builtin.«str.__eq__» ⟨[.str b u, .ref l], []⟩) (fun _ R s => s.heap.get? l = some { cls := c, dict := dd, data := .dict es ep, slots := sl } ∧ R (.ok (.ret .notImplemented)) s) :=
  .of_wp fun prog w A R s h => by obtain ⟨hp, g, d, tk, os⟩ := s; obtain ⟨hl, h⟩ := h; wp_walk using wpAny_loadPart' hl, wpAny_load hl; exact ⟨_, rfl, h⟩
theorem rc_dict_str {prog : Program} {w : World} {K : Type} [DecidableEq K] {knd : KeyKind prog w K} {a : Addr} {ka : List (K × Value)} (da : s.heap.DictOf knd a ka) (b : Str) (u : Tok) (hu : A.units < cLine) (E Q : Value → Shared → Prop) (h : Q (.bool false) s) :
    wpAny (model prog w) A (richCompare .Eq (.ref a) (.str b u)) Q E s := by
  refine rc_eq_decline_or (k := false) da.typeIs (typeIs_str s b u) (by decide) F.sub_str_dict F.slot_dict_eq F.slot_str_eq_refl ?_ ?_
    (fun _ hq => wpAny_of_eq (rfl : isSame (.ref a) (.str b u) = pure false) hq) (.inr hu) h
  · intro Q' hq
    refine wpAny_call_entry PySem.F.slot_dict_eq da.typeIs PySem.F.entry_dict_eq ?_ (PySem.F.args_dict_eq_2 _ _)
    show wpAny _ _ (Builtin.Dict.dictSlotArgs "__eq__" ⟨[.ref a, .str b u], []⟩ >>= _) _ _ s
    refine wpAny_bind ?_
    unfold Builtin.Dict.dictSlotArgs
    refine wpAny_bind (wpAny_notOrdered_dict da.typeIs ?_)
    show wpAny _ _ (pure (Value.ref a, Value.str b u)) _ _ s
    refine wpAny_pure ?_
    refine wpAny_bind (wpAny_isInstance (T := "str") (typeIs_str s b u) PySem.F.sub_str_dict ?_)
    simp only [Bool.not_false, if_true]
    refine wpAny_bind (wpAny_rule ?_)
    exact wpAny_pure ⟨_, rfl, hq⟩
  · intro Q' hq
    obtain ⟨⟨cls, dd, data, sl⟩, es, ep, ho, ex, hd, _⟩ := id da
    simp only at hd
    subst hd
    exact call_meets F.slot_str_eq_refl (typeIs_str s b u) F.entry_str_eq (F.args_str_eq_2 _ _) (str_eq_declines_dict b u a cls es ep dd sl) ⟨ho, hq⟩
end
theorem opD_eq (hu : X.A.units + 64 < cLine) : OpD Z X (compareOp .Eq) eqD := by
  intro pins s σ H x y v u Q I rx ry h
  obtain ⟨O, dx, dy, z, hO, sx, sy, e, q⟩ := h
  unfold eqD at e
  split at e
  · cases e
    cases sx.str; cases sy.str
    exact op_eq pins s σ H _ _ v u Q I rx ry ⟨rfl, by rw [dec_strV]; exact q _ _ (.same (.bl _))⟩
  · split at e
    · rename_i hc
      cases e
      exact op_eqD hu pins s σ H _ _ v u Q I rx ry ⟨_, _, sx.dp hc.1, sy.dp hc.2, okD_shaped hc.1, okD_shaped hc.2, q _ _ (.same (.bl _))⟩
    · unfold eqX at e
      split at e
      · cases e
        obtain ⟨a, xs, rfl, h1, c1⟩ := sx.dct
        obtain ⟨b, ys, rfl, h2, c2⟩ := sy.dct
        cases c1; cases c2
        exact op_eqV hu pins s σ H _ _ v u Q I rx ry ⟨0, by omega, .inr ⟨a, b, [], [], rfl, rfl, h1, h2, rfl, fun _ m => by cases m⟩, q _ _ (.same (.bl _))⟩
      · cases e
        obtain ⟨a, xs, rfl, h1, c1, n1⟩ := sx.tup
        obtain ⟨b, ys, rfl, h2, c2, n2⟩ := sy.tup
        cases c2
        cases c1
        cases (show v = Value.ref a from rx)
        cases (show u = Value.ref b from ry)
        exact (tup_nil (by omega) I (SqT.of h1) (SqT.of h2)).1 _ _ _ _ ⟨.bl false, H, I, rfl, q _ _ (.same (.bl _))⟩
      · cases e
        obtain ⟨a, xs, rfl, h1, c1⟩ := sx.lst
        obtain ⟨b, ys, rfl, h2, c2⟩ := sy.lst
        cases c2
        cases c1
        cases (show v = Value.ref a from rx)
        cases (show u = Value.ref b from ry)
        exact (lst_nil (by omega) I (SqL.of h1) (SqL.of h2)).1 _ _ _ _ ⟨.bl false, H, I, rfl, q _ _ (.same (.bl _))⟩
      · cases e
        obtain ⟨a, xs, rfl, h1, c1, n1⟩ := sx.tup
        cases sy.str
        obtain ⟨its, r, pl, _⟩ := I.tuple (SqT.of h1)
        cases (show v = Value.ref a from rx)
        obtain ⟨tk, rfl⟩ := (show ∃ tk, u = Value.str _ tk from ry)
        exact SeqAt.RcAt.tuple_str _ tk pl (by omega) _ _ _ _ ⟨.bl false, H, I, rfl, q _ _ (.same (.bl _))⟩
      · cases e
        obtain ⟨a, xs, rfl, h1, c1⟩ := sx.lst
        cases sy.str
        obtain ⟨its, r, pl, _⟩ := I.list (SqL.of h1)
        cases (show v = Value.ref a from rx)
        obtain ⟨tk, rfl⟩ := (show ∃ tk, u = Value.str _ tk from ry)
        exact SeqAt.RcAt.list_str _ tk pl.isList (by omega) _ _ _ _ ⟨.bl false, H, I, rfl, q _ _ (.same (.bl _))⟩
      · cases e
        obtain ⟨a, xs, rfl, h1, c1⟩ := sx.dct
        cases sy.str
        obtain ⟨_, ya, va, ra, da⟩ := (show ObjOk X.prog X.w H s.heap a (.dK xs) from I.hok a _ h1)
        cases (show v = Value.ref a from rx)
        obtain ⟨tk, rfl⟩ := (show ∃ tk, u = Value.str _ tk from ry)
        exact rc_dict_str da _ tk (by omega) _ _ ⟨.bl false, H, I, rfl, q _ _ (.same (.bl _))⟩
      · cases e
theorem opD_ne (hu : X.A.units + 64 < cLine) : OpD Z X (compareOp .NotEq) neD := by
  intro pins s σ H x y v u Q I rx ry h
  obtain ⟨O, dx, dy, z, hO, sx, sy, e, q⟩ := h
  unfold neD at e
  split at e
  · cases e
    cases sx.str; cases sy.str
    exact op_ne pins s σ H _ _ v u Q I rx ry ⟨rfl, by rw [dec_strV]; exact q _ _ (.same (.bl _))⟩
  · split at e
    · rename_i hc
      cases e
      exact op_neD hu pins s σ H _ _ v u Q I rx ry ⟨_, _, sx.dp hc.1, sy.dp hc.2, okD_shaped hc.1, okD_shaped hc.2, q _ _ (.same (.bl _))⟩
    · unfold neX at e
      split at e
      · cases e
        obtain ⟨a, xs, rfl, h1, c1, n1⟩ := sx.tup
        obtain ⟨b, ys, rfl, h2, c2, n2⟩ := sy.tup
        cases c2
        cases c1
        cases (show v = Value.ref a from rx)
        cases (show u = Value.ref b from ry)
        exact (tup_nil (by omega) I (SqT.of h1) (SqT.of h2)).2 _ _ _ _ ⟨.bl true, H, I, rfl, q _ _ (.same (.bl _))⟩
      · cases e
        obtain ⟨a, xs, rfl, h1, c1⟩ := sx.lst
        obtain ⟨b, ys, rfl, h2, c2⟩ := sy.lst
        cases c2
        cases c1
        cases (show v = Value.ref a from rx)
        cases (show u = Value.ref b from ry)
        exact (lst_nil (by omega) I (SqL.of h1) (SqL.of h2)).2 _ _ _ _ ⟨.bl true, H, I, rfl, q _ _ (.same (.bl _))⟩
      · cases e
def ltD : D → D → Option (D × Bool)
  | .int i, .int j => some (.bl (decide (i < j)), false)
  | _, _ => none
def leD : D → D → Option (D × Bool)
  | .int i, .int j => some (.bl (decide (i ≤ j)), false)
  | _, _ => none
def gtD : D → D → Option (D × Bool)
  | .int i, .int j => some (.bl (decide (j < i)), false)
  | _, _ => none
def geD : D → D → Option (D × Bool)
  | .int i, .int j => some (.bl (decide (j ≤ i)), false)
  | _, _ => none
theorem opD_lt : OpD Z X (compareOp .Lt) ltD := by
  intro pins s σ H x y v u Q I rx ry h
  obtain ⟨O, dx, dy, z, hO, sx, sy, e, q⟩ := h
  unfold ltD at e
  split at e
  · cases e
    cases sx.int; cases sy.int
    exact op_lt pins s σ H _ _ v u Q I rx ry ⟨_, _, rfl, rfl, q _ _ (.same (.bl _))⟩
  · cases e
theorem opD_le : OpD Z X (compareOp .LtE) leD := by
  intro pins s σ H x y v u Q I rx ry h
  obtain ⟨O, dx, dy, z, hO, sx, sy, e, q⟩ := h
  unfold leD at e
  split at e
  · cases e
    cases sx.int; cases sy.int
    exact op_le pins s σ H _ _ v u Q I rx ry ⟨_, _, rfl, rfl, q _ _ (.same (.bl _))⟩
  · cases e
theorem opD_gt : OpD Z X (compareOp .Gt) gtD := by
  intro pins s σ H x y v u Q I rx ry h
  obtain ⟨O, dx, dy, z, hO, sx, sy, e, q⟩ := h
  unfold gtD at e
  split at e
  · cases e
    cases sx.int; cases sy.int
    exact op_gt pins s σ H _ _ v u Q I rx ry ⟨_, _, rfl, rfl, q _ _ (.same (.bl _))⟩
  · cases e
def isNon : D → Bool
  | .non => true
  | _ => false
/-- is None: of data that are no handles -/
def isD : D → D → Option (D × Bool)
  | .hnd _, _ => none
  | .fn _, _ => none
  | x, .non => some (.bl (isNon x), false)
  | .bl a, .bl b => some (.bl (decide (a = b)), false)
  | _, _ => none
def isntD : D → D → Option (D × Bool)
  | .hnd _, _ => none
  | .fn _, _ => none
  | x, .non => some (.bl (!isNon x), false)
  | .bl a, .bl b => some (.bl (!decide (a = b)), false)
  | _, _ => none
theorem Shows.isNon {O : Addr → Prop} {H : Hp} {v : V} {d : D} (h : Shows Z O H v d) (n : ∀ k, d ≠ .hnd k) (n2 : ∀ k, d ≠ .fn k) : decide (v = .non) = FD.isNon d := by
  cases h with
  | own => 
    rename_i c
    cases c <;> rfl
  | den h => cases h with
    | ref e m c => cases c <;> rfl
    | hnd k => exact absurd rfl (n k)
    | fn k => exact absurd rfl (n2 k)
    | _ => rfl
theorem opD_is : OpD Z X (compareOp .Is) isD := by
  intro pins s σ H x y v u Q I rx ry h
  obtain ⟨O, dx, dy, z, hO, sx, sy, e, q⟩ := h
  unfold isD at e
  split at e
  · cases e
  · cases e
  · rename_i n n2
    cases e
    cases sy.non
    exact op_isN pins s σ H _ _ v u Q I rx ry ⟨rfl, q _ _ (.same (by rw [sx.isNon n n2]; exact .bl _))⟩
  · cases e
    cases sx.bl; cases sy.bl
    exact op_isBl pins s σ H _ _ v u Q I rx ry ⟨_, _, rfl, rfl, q _ _ (.same (.bl _))⟩
  · cases e
def negD : D → Option (D × Bool)
  | .int i => some (.int (-i), false)
  | _ => none
theorem unD_neg : UnD Z X (unaryOp .USub) negD := by
  intro pins s σ H x v Q I rx h
  obtain ⟨O, dx, z, hO, sx, e, q⟩ := h
  unfold negD at e
  split at e
  · cases e
    cases sx.int
    exact un_neg pins s σ H _ v Q I rx ⟨_, rfl, q _ _ (.same (.int _))⟩
  · cases e
end
end FD

/-! F4: argument lists, displays, calls of built-in functions, subscripts, slices, tests. -/
namespace FD
open PySem PySem.Spec PyProof.Rows L2

inductive OutA where
  | ok (rs : List Res) | ex (c : Str) (fs : List (Str × D))
abbrev AF (T : Type) := Sg T → Option (OutA × Sg T)
inductive ResOks {Z : Wd} (C : Fx Z) (σ : L2.St) (ow : Nat → Option Addr) (τ : List Sl) (H : Hp) : List V → List Res → Prop
  | nil : ResOks C σ ow τ H [] []
  | cons {v : V} {r : Res} {vs : List V} {rs : List Res} : ResOk C ow τ σ H v (hold r) → ResOks C σ ow τ H vs rs → ResOks C σ ow τ H (v :: vs) (hold r :: rs)
def FinA {Z : Wd} (C : Fx Z) (ow : Nat → Option Addr) (σ : L2.St) (H : Hp) (Q : List V → Hp → Prop) (s' : Sg Z.T) : OutA → Prop
  | .ok rs => ∀ ow' vs H', C.Rel ow' s'.1 s'.2 σ H' → ow' 0 = none → ResOks C σ ow' s'.1 H' vs rs → Ext (C.Hid ow) H (C.Hid ow') H' → Q vs H'
  | .ex c fs => ∀ ow' d H', C.Rel ow' s'.1 s'.2 σ H' → ow' 0 = none → Ext (C.Hid ow) H (C.Hid ow') H' → ExOk Z (C.Hid ow') H' d fs → C.W (.ref (Z.ca c)) d σ H'
def KnA {Z : Wd} (C : Fx Z) (f : AF Z.T) (ow : Nat → Option Addr) (τ : List Sl) (t : Z.T) (σ : L2.St) (H : Hp) (Q : List V → Hp → Prop) : Prop := ∃ o s', f (τ, t) = some (o, s') ∧ FinA C ow σ H Q s' o
def tA {Z : Wd} (C : Fx Z) (f : AF Z.T) : TA := fun σ H Q => ∃ ow τ t, C.Rel ow τ t σ H ∧ ow 0 = none ∧ KnA C f ow τ t σ H Q

def nilA {T : Type} : AF T := fun s => some (.ok [], s)
def consA {T : Type} (f : EF T) (g : AF T) : AF T := fun s => match f s with
  | none => none
  | some (.ex c fs, s1) => some (.ex c fs, s1)
  | some (.ok r, s1) => match g s1 with
    | none => none
    | some (.ex c fs, s2) => some (.ex c fs, s2)
    | some (.ok rs, s2) => some (.ok (hold r :: rs), s2)

section
variable {Z : Wd} {C : Fx Z} {X : Cx} {ow ow' : Nat → Option Addr} {τ : List Sl} {t : Z.T} {σ : L2.St} {H H' : Hp} {f : EF Z.T} {g : AF Z.T}
theorem FinA.from {Q : List V → Hp → Prop} (x : Ext (C.Hid ow) H (C.Hid ow') H') {s' : Sg Z.T} {o : OutA} (h : FinA C ow σ H Q s' o) : FinA C ow' σ H' Q s' o := by
  cases o with
  | ok r => exact fun ow2 v H2 R2 z r2 x2 => h ow2 v H2 R2 z r2 (x.trans x2)
  | ex c fs => exact fun ow2 d H2 R2 z x2 e => h ow2 d H2 R2 z (x.trans x2) e
theorem KnA.from {Q : List V → Hp → Prop} (x : Ext (C.Hid ow) H (C.Hid ow') H') (h : KnA C g ow τ t σ H Q) : KnA C g ow' τ t σ H' Q := by
  obtain ⟨o, s', e, h⟩ := h
  exact ⟨o, s', e, h.from x⟩
theorem tA_mono {Q Q' : List V → Hp → Prop} (h : tA C g σ H Q) (k : ∀ v H, Q v H → Q' v H) : tA C g σ H Q' := by
  obtain ⟨ow, τ, t, R, h0, o, s', e, h⟩ := h
  refine ⟨ow, τ, t, R, h0, o, s', e, ?_⟩
  cases o with
  | ok r => exact fun ow' v H' R' z r' x => k v H' (h ow' v H' R' z r' x)
  | ex c fs => exact h
/-- a held result, later -/
theorem ResOk.carry {ow' : Nat → Option Addr} {τ τ' : List Sl} {v : V} {r : Res} (h : ResOk C ow τ σ H v (FD.hold r)) (z : ow' 0 = none) (x : Ext (C.Hid ow) H (C.Hid ow') H') : ResOk C ow' τ' σ H' v (FD.hold r) := by
  cases r with
  | d _ => exact ⟨z, h.2.ext x⟩
  | f _ => exact ⟨z, h.2.ext x⟩
  | s _ => exact ⟨z, h.2⟩
theorem tA_nil {Q : List V → Hp → Prop} (h : tA C nilA σ H Q) : tNil σ H Q := by
  obtain ⟨ow, τ, t, R, h0, o, s', e, h⟩ := h
  cases e
  exact h ow [] H R h0 .nil .refl
theorem tA_cons {Q : List V → Hp → Prop} (h : tA C (consA f g) σ H Q) : tCons (tF C f) (tA C g) σ H Q := by
  obtain ⟨ow, τ, t, R, h0, o, s', e, h⟩ := h
  unfold consA at e
  cases q : f (τ, t) with
  | none => rw [q] at e; cases e
  | some z =>
    obtain ⟨o1, s1⟩ := z
    rw [q] at e
    cases o1 with
    | ex c fs =>
      cases e
      exact ⟨ow, τ, t, _, _, R, h0, q, h⟩
    | ok r =>
      refine ⟨ow, τ, t, _, _, R, h0, q, fun ow1 v H1 R1 r1 x1 => ?_⟩
      obtain ⟨ow2, R2, z2, r2, x2⟩ := r1.hold R1
      have x12 := x1.trans x2
      cases q2 : g s1 with
      | none => simp only [q2] at e; cases e
      | some w =>
        obtain ⟨o2, s2⟩ := w
        simp only [q2] at e
        cases o2 with
        | ex c fs =>
          cases e
          exact ⟨ow2, s1.1, s1.2, R2, z2, _, _, q2, fun ow3 d H3 R3 z3 x3 e3 => h ow3 d H3 R3 z3 (x12.trans x3) e3⟩
        | ok rs =>
          cases e
          exact ⟨ow2, s1.1, s1.2, R2, z2, _, _, q2, fun ow3 vs H3 R3 z3 rs3 x3 => h ow3 _ H3 R3 z3 (.cons (r2.carry z3 x3) rs3) (x12.trans x3)⟩
theorem ev_anil : PA X [] (tA C nilA) := ⟨fun pos pins s σ H Q I h => pa_nil.run pos pins s σ H Q I (tA_nil h)⟩
theorem ev_acons {e : Expr} {es : List Expr} (ha : PE X e (tF C f)) (hr : PA X es (tA C g)) (hs : starEach (e :: es) X.env = (false, eval e X.env) :: starEach es X.env := by rfl) : PA X (e :: es) (tA C (consA f g)) :=
  ⟨fun pos pins s σ H Q I h => (pa_cons ha hr hs).run pos pins s σ H Q I (tA_cons h)⟩
end

/-! ### arguments used -/
def peekAll (τ : List Sl) : List Res → Option (List D)
  | [] => some []
  | r :: rs => match peek τ r, peekAll τ rs with
    | some d, some ds => some (d :: ds)
    | _, _ => none
def giveAll (τ : List Sl) : List Res → Option (List D × List Sl)
  | [] => some ([], τ)
  | r :: rs => match give τ r with
    | none => none
    | some (d, τ1) => match giveAll τ1 rs with
      | none => none
      | some (ds, τ2) => some (d :: ds, τ2)
inductive ShowsA (Z : Wd) (O : Addr → Prop) (H : Hp) : List V → List D → Prop
  | nil : ShowsA Z O H [] []
  | cons {v : V} {d : D} {vs : List V} {ds : List D} : Shows Z O H v d → ShowsA Z O H vs ds → ShowsA Z O H (v :: vs) (d :: ds)
section
variable {Z : Wd} {C : Fx Z} {X : Cx} {ow ow' : Nat → Option Addr} {τ : List Sl} {t : Z.T} {σ : L2.St} {H H' : Hp} {f : EF Z.T} {g : AF Z.T}
theorem ResOks.peek : ∀ {vs : List V} {rs : List Res} {ds : List D}, C.Rel ow τ t σ H → ResOks C σ ow τ H vs rs → peekAll τ rs = some ds → ShowsA Z (C.Hid ow) H vs ds
  | _, _, _, _, .nil, e => by cases e; exact .nil
  | _, _, _, R, .cons h r, e => by
    unfold peekAll at e
    split at e
    · rename_i p1 p2
      cases e
      exact .cons (h.peek R p1) (ResOks.peek R r p2)
    · cases e
theorem ResOks.carry : ∀ {vs : List V} {rs : List Res} {τ' : List Sl}, ow' 0 = none → Ext (C.Hid ow) H (C.Hid ow') H' → ResOks C σ ow τ H vs rs → ResOks C σ ow' τ' H' vs rs
  | _, _, _, _, _, .nil => .nil
  | _, _, _, z, x, .cons h r => .cons (h.carry z x) (ResOks.carry z x r)
theorem ResOks.give : ∀ {vs : List V} {rs : List Res} {ds : List D} {ow : Nat → Option Addr} {τ τ' : List Sl}, C.Rel ow τ t σ H → ow 0 = none → ResOks C σ ow τ H vs rs → giveAll τ rs = some (ds, τ') →
    ∃ ow', C.Rel ow' τ' t σ H ∧ ow' 0 = none ∧ DenA Z (C.Hid ow') H vs ds ∧ Ext (C.Hid ow) H (C.Hid ow') H
  | _, _, _, ow, _, _, R, z, .nil, e => by cases e; exact ⟨ow, R, z, .nil, .refl⟩
  | _, _, _, _, _, _, R, z, .cons h r, e => by
    unfold giveAll at e
    split at e
    · cases e
    · rename_i d τ1 p1
      split at e
      · cases e
      · rename_i ds τ2 p2
        cases e
        obtain ⟨ow1, R1, z1, d1, x1⟩ := h.give R p1
        obtain ⟨ow2, R2, z2, d2, x2⟩ := ResOks.give R1 z1 (r.carry z1 x1) p2
        exact ⟨ow2, R2, z2, .cons (d1.ext x2) d2, x1.trans x2⟩
end

/-! ### displays -/
def dispF {T : Type} (mk : List D → D) (fr : Bool) (g : AF T) : EF T := fun s => match g s with
  | none => none
  | some (.ex c fs, s1) => some (.ex c fs, s1)
  | some (.ok rs, s1) => match giveAll s1.1 rs with
    | none => none
    | some (ds, τ) => if ds.length ≤ LEN then some (.ok (resOf (mk ds, fr)), (τ, s1.2)) else none
def tupF {T : Type} (g : AF T) : EF T := dispF .tup false g
def lstF {T : Type} (g : AF T) : EF T := dispF .lst true g
section
variable {Z : Wd} {C : Fx Z} {X : Cx} {es : List Expr} {e a b : Expr} {pos : Pos} {f fa fb : EF Z.T} {g : AF Z.T} {σ : L2.St} {H : Hp}
theorem disp_of {Q : VK} {mk : List D → D} {fr : Bool} (h : tF C (dispF mk fr g) σ H Q) : tA C g σ H fun xs H1 => xs.length ≤ sizeLine ∧
    ∃ ow ds, (∀ p, H1 p = none → ¬ C.Hid ow p) ∧ DenA Z (C.Hid ow) H1 xs ds ∧ ∀ v H', Gets Z (C.Hid ow) H1 v H' (mk ds, fr) → Q v H' := by
  obtain ⟨ow, τ, t, o, s', R, h0, e, h⟩ := h
  unfold dispF at e
  cases q : g (τ, t) with
  | none => rw [q] at e; cases e
  | some z =>
    obtain ⟨o1, s1⟩ := z
    rw [q] at e
    cases o1 with
    | ex c fs =>
      cases e
      exact ⟨ow, τ, t, R, h0, _, _, q, h⟩
    | ok rs =>
      refine ⟨ow, τ, t, R, h0, _, _, q, fun ow1 vs H1 R1 z1 r1 x1 => ?_⟩
      simp only at e
      split at e
      · cases e
      · rename_i ds τ2 p
        split at e
        · rename_i hl
          cases e
          obtain ⟨ow2, R2, z2, d2, x2⟩ := r1.give R1 z1 p
          refine ⟨by rw [d2.len]; exact len_line hl, ow2, ds, fun p hp => R2.nohid hp, d2, fun v H' gt => ?_⟩
          obtain ⟨ow3, R3, r3, x3⟩ := R2.gets z2 gt
          exact h ow3 v H' R3 r3 ((x1.trans x2).trans x3)
        · cases e
theorem ev_tup {k : Nat} (h : PA X es (tA C g)) : PE X (.Tuple es k pos) (tF C (tupF g)) := ⟨fun pins s σ H Q I q => (pe_tup h).run pins s σ H Q I (tA_mono (disp_of q) fun xs H1 ⟨z, ow, ds, hO, d, k⟩ => ⟨z, fun p hp => k _ _ (.tup hO hp d)⟩)⟩
theorem ev_lst (h : PA X es (tA C g)) : PE X (.List es pos) (tF C (lstF g)) := ⟨fun pins s σ H Q I q => (pe_lst h).run pins s σ H Q I (tA_mono (disp_of q) fun xs H1 ⟨z, ow, ds, hO, d, k⟩ => ⟨z, fun p hp => k _ _ (.lst hp d)⟩)⟩

/-! ### built-in functions -/
def rDA (Z : Wd) (op : List D → Option (D × Bool)) : List V → Hp → VK → Prop := fun vs H Q => ∃ O ds z, (∀ p, H p = none → ¬ O p) ∧ ShowsA Z O H vs ds ∧ op ds = some z ∧ ∀ v H', Gets Z O H v H' z → Q v H'
def CallD (Z : Wd) (X : Cx) (f : Value) (op : List D → Option (D × Bool)) : Prop := CallR X f (rDA Z op)
def callF {T : Type} (op : List D → Option (D × Bool)) (g : AF T) : EF T := fun s => match g s with
  | none => none
  | some (.ex c fs, s1) => some (.ex c fs, s1)
  | some (.ok rs, s1) => match peekAll s1.1 rs with
    | none => none
    | some ds => match op ds with
      | none => none
      | some z => some (.ok (resOf z), s1)
theorem call_of {Q : VK} {op : List D → Option (D × Bool)} (h : tF C (callF op g) σ H Q) : tA C g σ H fun xs H1 => rDA Z op xs H1 Q := by
  obtain ⟨ow, τ, t, o, s', R, h0, e, h⟩ := h
  unfold callF at e
  cases q : g (τ, t) with
  | none => rw [q] at e; cases e
  | some z =>
    obtain ⟨o1, s1⟩ := z
    rw [q] at e
    cases o1 with
    | ex c fs =>
      cases e
      exact ⟨ow, τ, t, R, h0, _, _, q, h⟩
    | ok rs =>
      refine ⟨ow, τ, t, R, h0, _, _, q, fun ow1 vs H1 R1 z1 r1 x1 => ?_⟩
      simp only at e
      split at e
      · cases e
      · rename_i ds p
        split at e
        · cases e
        · rename_i z p2
          cases e
          refine ⟨_, ds, z, fun p hp => R1.nohid hp, r1.peek R1 p, p2, fun v H' gt => ?_⟩
          obtain ⟨ow3, R3, r3, x3⟩ := R1.gets z1 gt
          exact h ow3 v H' R3 r3 (x1.trans x3)
theorem ev_callB {x : Str} {id : String} {p : Pos} {op : List D → Option (D × Bool)} (hc : CallD Z X (.builtin id) op) (hg : Gl X x) (hm : X.mg x = none) (hv : bootBuiltins x = some (.builtin id)) (ha : PA X (e :: es) (tA C g)) (hn : x ≠ "__name__" := by decide) (hdb : (x == ("__debug__" : Str)) = false := by decide)
    (he : starEach (e :: es) X.env = (false, eval e X.env) :: starEach es X.env := by rfl) (hpl : (backTo pos (starEach es X.env)).any (·.1) = false := by rfl) : PE X (.Call (.Name x p) (e :: es) [] pos) (tF C (callF op g)) :=
  ⟨fun pins s σ H Q I h => (pe_callB hc hg hm hv ha hn hdb he hpl).run pins s σ H Q I (call_of h)⟩
theorem ev_callTy {x : Str} {T : String} {p : Pos} {op : List D → Option (D × Bool)} (hc : CallD Z X (.type T) op) (hg : Gl X x) (hm : X.mg x = none) (hv : bootBuiltins x = some (.type T)) (ha : PA X (e :: es) (tA C g)) (hn : x ≠ "__name__" := by decide) (hdb : (x == ("__debug__" : Str)) = false := by decide)
    (he : starEach (e :: es) X.env = (false, eval e X.env) :: starEach es X.env := by rfl) (hpl : (backTo pos (starEach es X.env)).any (·.1) = false := by rfl) : PE X (.Call (.Name x p) (e :: es) [] pos) (tF C (callF op g)) :=
  ⟨fun pins s σ H Q I h => (pe_callTy hc hg hm hv ha hn hdb he hpl).run pins s σ H Q I (call_of h)⟩

/-! ### subscripts -/
theorem ev_ix {op : D → D → Option (D × Bool)} (hr : IxR X (rD2 Z op)) (ha : PE X a (tF C fa)) (hb : PE X b (tF C fb)) (hs : PlainIx b) : PE X (.Subscript a b pos) (tF C (binF op fa fb)) :=
  ⟨fun pins s σ H Q I h => (pe_ix hr ha hb hs).run pins s σ H Q I (tOp_of h)⟩
end
end FD

/-! F5: tests, and, or, not, conditional expressions, chains. -/
namespace FD
open PySem PySem.Spec PyProof.Rows L2

def FinT {Z : Wd} (C : Fx Z) (ow : Nat → Option Addr) (σ : L2.St) (H : Hp) (Q : Bool → Hp → Prop) (s' : Sg Z.T) : Out → Prop
  | .ok r => ∃ b, peek s'.1 (hold r) = some (.bl b) ∧ ∀ ow' H', C.Rel ow' s'.1 s'.2 σ H' → ow' 0 = none → Ext (C.Hid ow) H (C.Hid ow') H' → Q b H'
  | .ex c fs => ∀ ow' d H', C.Rel ow' s'.1 s'.2 σ H' → ow' 0 = none → Ext (C.Hid ow) H (C.Hid ow') H' → ExOk Z (C.Hid ow') H' d fs → C.W (.ref (Z.ca c)) d σ H'
def KnT {Z : Wd} (C : Fx Z) (f : EF Z.T) (ow : Nat → Option Addr) (τ : List Sl) (t : Z.T) (σ : L2.St) (H : Hp) (Q : Bool → Hp → Prop) : Prop := ∃ o s', f (τ, t) = some (o, s') ∧ FinT C ow σ H Q s' o
def tT {Z : Wd} (C : Fx Z) (f : EF Z.T) : TT := fun σ H Q => ∃ ow τ t, C.Rel ow τ t σ H ∧ ow 0 = none ∧ KnT C f ow τ t σ H Q

section
variable {Z : Wd} {C : Fx Z} {X : Cx} {ow ow' : Nat → Option Addr} {τ : List Sl} {t : Z.T} {σ : L2.St} {H H' : Hp} {f g h : EF Z.T} {a b c e : Expr} {pos : Pos} {rest : List Expr}
theorem FinT.from {Q : Bool → Hp → Prop} (x : Ext (C.Hid ow) H (C.Hid ow') H') {s' : Sg Z.T} {o : Out} (h : FinT C ow σ H Q s' o) : FinT C ow' σ H' Q s' o := by
  cases o with
  | ok r =>
    obtain ⟨b, e, h⟩ := h
    exact ⟨b, e, fun ow2 H2 R2 z x2 => h ow2 H2 R2 z (x.trans x2)⟩
  | ex c fs => exact fun ow2 d H2 R2 z x2 e => h ow2 d H2 R2 z (x.trans x2) e
theorem KnT.from {Q : Bool → Hp → Prop} (x : Ext (C.Hid ow) H (C.Hid ow') H') (h : KnT C f ow τ t σ H Q) : KnT C f ow' τ t σ H' Q := by
  obtain ⟨o, s', e, h⟩ := h
  exact ⟨o, s', e, h.from x⟩
theorem tT_mono {Q Q' : Bool → Hp → Prop} (h : tT C f σ H Q) (k : ∀ v H, Q v H → Q' v H) : tT C f σ H Q' := by
  obtain ⟨ow, τ, t, R, h0, o, s', e, h⟩ := h
  refine ⟨ow, τ, t, R, h0, o, s', e, ?_⟩
  cases o with
  | ok r =>
    obtain ⟨b, e, h⟩ := h
    exact ⟨b, e, fun ow' H' R' z x => k b H' (h ow' H' R' z x)⟩
  | ex c fs => exact h
/-- a test whose reading is known as that of its value -/
theorem tT_val {Q : Bool → Hp → Prop} (h : tT C f σ H Q) : tF C f σ H fun x H1 => ∃ b, x = .bl b ∧ Q b H1 := by
  obtain ⟨ow, τ, t, R, h0, o, s', e, h⟩ := h
  refine ⟨ow, τ, t, o, s', R, h0, e, ?_⟩
  cases o with
  | ok r =>
    obtain ⟨b, e, h⟩ := h
    intro ow' v H' R' r' x
    obtain ⟨ow1, R1, z1, r1, x1⟩ := r'.hold R'
    exact ⟨b, (r1.peek R1 e).bl, h ow1 H' R1 z1 (x.trans x1)⟩
  | ex c fs => exact h
theorem et_val (he : PE X e (tF C f)) (hw : ∀ whole, isTrue e X.env whole = (do let v ← whole; standAt e.pos; holding [v] (truthy v)) := by intro _; rfl) : PT X e (tT C f) :=
  ⟨fun pins s σ H Q I h => (pt_val he hw).run pins s σ H Q I (tT_val h)⟩
theorem et_cmp {op : CmpOp} {o : D → D → Option (D × Bool)} (ho : OpD Z X (compareOp op) o) (ha : PE X a (tF C f)) (hb : PE X b (tF C g)) (hm : behindInMarks op b = false) : PT X (.Compare a [op] [b] pos) (tT C (binF o f g)) :=
  ⟨fun pins s σ H Q I h => (pt_cmpR ho ha hb hm).run pins s σ H Q I (tOp_of (tT_val h))⟩

/-! ### and, or, not -/
/-- what goes on by a truth value -/
def branchF {T : Type} (f g h : EF T) : EF T := bindF f fun r => fun s => match peek s.1 (hold r) with
  | some (.bl true) => g s
  | some (.bl false) => h s
  | _ => none
def andF {T : Type} (f g : EF T) : EF T := branchF f g (conF (.bl false))
def orF {T : Type} (f g : EF T) : EF T := branchF f (conF (.bl true)) g
def notF {T : Type} (f : EF T) : EF T := branchF f (conF (.bl false)) (conF (.bl true))
theorem branch_tF {Q : VK} (h0 : tF C (branchF f g h) σ H Q) : tF C f σ H fun x H1 => ∃ b, x = .bl b ∧ if b = true then tF C g σ H1 Q else tF C h σ H1 Q := by
  obtain ⟨ow, τ, t, R, z, k⟩ := h0.at_
  refine tF_mono (k.bind R z) fun x H1 ⟨ow1, τ1, t1, r, R1, r1, k1, _⟩ => ?_
  obtain ⟨ow2, R2, z2, r2, x2⟩ := r1.hold R1
  obtain ⟨o, s', e, k2⟩ := k1.from x2
  simp only at e
  split at e
  · rename_i p
    exact ⟨true, (r2.peek R2 p).bl, by rw [if_pos rfl]; exact Kn.tF ⟨o, s', e, k2⟩ R2 z2⟩
  · rename_i p
    exact ⟨false, (r2.peek R2 p).bl, by rw [if_neg (by decide)]; exact Kn.tF ⟨o, s', e, k2⟩ R2 z2⟩
  · cases e
/-- behind a test: what goes on by it, as a test -/
theorem branch_tT {Q : Bool → Hp → Prop} (h0 : tT C (branchF f g h) σ H Q) : tT C f σ H fun b H1 => if b = true then tT C g σ H1 Q else tT C h σ H1 Q := by
  obtain ⟨ow, τ, t, R, z, o, s', e, k⟩ := h0
  unfold branchF bindF at e
  cases q : f (τ, t) with
  | none => rw [q] at e; cases e
  | some w =>
    obtain ⟨o1, s1⟩ := w
    rw [q] at e
    cases o1 with
    | ex c fs =>
      cases e
      exact ⟨ow, τ, t, R, z, _, _, q, k⟩
    | ok r =>
      simp only at e
      split at e
      · rename_i p
        exact ⟨ow, τ, t, R, z, _, _, q, true, p, fun ow1 H1 R1 z1 x1 => by dsimp only; rw [if_pos rfl]; exact ⟨ow1, s1.1, s1.2, R1, z1, o, s', e, k.from x1⟩⟩
      · rename_i p
        exact ⟨ow, τ, t, R, z, _, _, q, false, p, fun ow1 H1 R1 z1 x1 => by dsimp only; rw [if_neg (by decide)]; exact ⟨ow1, s1.1, s1.2, R1, z1, o, s', e, k.from x1⟩⟩
      · cases e
theorem con_tF {d : D} {v : V} {Q : VK} (h : tF C (conF d) σ H Q) (hd : ∀ O H, Den Z O H v d) : Q v H := by
  obtain ⟨ow, τ, t, o, s', R, h0, e, h⟩ := h
  cases e
  exact h ow v H R ⟨h0, hd _ _⟩ .refl
theorem con_tT {b : Bool} {Q : Bool → Hp → Prop} (h : tT C (conF (.bl b)) σ H Q) : Q b H := by
  obtain ⟨ow, τ, t, R, h0, o, s', e, h⟩ := h
  cases e
  obtain ⟨b', e, h⟩ := h
  cases e
  exact h ow H R h0 .refl
theorem ev_one {op : BoolOp} (h : PE X a (tF C f)) : PE X (.BoolOp op [a] pos) (tF C f) := pe_one h
theorem ev_and (ha : PE X a (tF C f)) (hb : PE X (.BoolOp .And (b :: rest) pos) (tF C g)) : PE X (.BoolOp .And (a :: b :: rest) pos) (tF C (andF f g)) :=
  ⟨fun pins s σ H Q I h => (pe_and ha hb).run pins s σ H Q I (tF_mono (branch_tF h) fun x H1 ⟨b, e, k⟩ => ⟨b, e, by
    cases b with
    | true => exact k
    | false => exact con_tF k fun _ _ => .bl false⟩)⟩
theorem ew_and1 (ha : PT X a (tT C f)) : PW X (.BoolOp .And [a] pos) (tT C f) := pw_and1 ha
theorem ew_or1 (ha : PT X a (tT C f)) : PW X (.BoolOp .Or [a] pos) (tT C f) := pw_or1 ha
theorem ew_and (ha : PT X a (tT C f)) (hb : PW X (.BoolOp .And (b :: rest) pos) (tT C g)) : PW X (.BoolOp .And (a :: b :: rest) pos) (tT C (andF f g)) :=
  ⟨fun wh pins s σ H Q I h => (pw_and ha hb).run wh pins s σ H Q I (tT_mono (branch_tT h) fun b H1 k => by
    cases b with
    | true => exact k
    | false => exact con_tT k)⟩
theorem ew_or (ha : PT X a (tT C f)) (hb : PW X (.BoolOp .Or (b :: rest) pos) (tT C g)) : PW X (.BoolOp .Or (a :: b :: rest) pos) (tT C (orF f g)) :=
  ⟨fun wh pins s σ H Q I h => (pw_or ha hb).run wh pins s σ H Q I (tT_mono (branch_tT h) fun b H1 k => by
    cases b with
    | true => exact con_tT k
    | false => exact k)⟩
theorem et_not (ha : PT X a (tT C f)) : PT X (.UnaryOp .Not a pos) (tT C (notF f)) :=
  ⟨fun pins s σ H Q I h => (pt_not ha).run pins s σ H Q I (tT_mono (branch_tT h) fun b H1 k => by
    cases b with
    | true => exact con_tT k
    | false => exact con_tT k)⟩
theorem ev_if (hc : PT X c (tT C f)) (ha : PE X a (tF C g)) (hb : PE X b (tF C h)) : PE X (.IfExp c a b pos) (tF C (branchF f g h)) :=
  ⟨fun pins s σ H Q I q => (pe_ifExp hc ha hb).run pins s σ H Q I (by
    obtain ⟨ow, τ, t, R, z, o, s', e, k⟩ := q.at_
    unfold branchF bindF at e
    cases q : f (τ, t) with
    | none => rw [q] at e; cases e
    | some w =>
      obtain ⟨o1, s1⟩ := w
      rw [q] at e
      cases o1 with
      | ex c fs =>
        cases e
        exact ⟨ow, τ, t, R, z, _, _, q, k⟩
      | ok r =>
        simp only at e
        split at e
        · rename_i p
          exact ⟨ow, τ, t, R, z, _, _, q, true, p, fun ow1 H1 R1 z1 x1 => by dsimp only; rw [if_pos rfl]; exact Kn.tF ⟨o, s', e, k.from x1⟩ R1 z1⟩
        · rename_i p
          exact ⟨ow, τ, t, R, z, _, _, q, false, p, fun ow1 H1 R1 z1 x1 => by dsimp only; rw [if_neg (by decide)]; exact Kn.tF ⟨o, s', e, k.from x1⟩ R1 z1⟩
        · cases e)⟩

/-! ### chains -/
def chainF {T : Type} (op op' : D → D → Option (D × Bool)) (f g h : EF T) : EF T := bindF f fun ra => bindF g fun rb => fun s => match peek s.1 (hold ra), peek s.1 (hold rb) with
  | some x, some y => match op x y with
    | some (.bl true, false) => bindF h (fun rc => doneF fun τ => match peek τ (hold rb), peek τ (hold rc) with
      | some y, some z => op' y z
      | _, _ => none) s
    | some (.bl false, false) => some (.ok (.d (.bl false)), s)
    | _ => none
  | _, _ => none
theorem chain_of {op op' : D → D → Option (D × Bool)} {Q : VK} (q : tF C (chainF op op' f g h) σ H Q) : tChain (rD2 Z op) (rD2 Z op') (tF C f) (tF C g) (tF C h) σ H Q := by
  obtain ⟨ow, τ, t, R, z, k⟩ := q.at_
  refine tF_mono (k.bind R z) fun x H1 ⟨ow1, τ1, t1, ra, R1, r1, h1, _⟩ => ?_
  obtain ⟨ow1', R1', z1, r1', x1⟩ := r1.hold R1
  refine tF_mono ((h1.from x1).bind R1' z1) fun y H2 ⟨ow2, τ2, t2, rb, R2, r2, h2, x2⟩ => ?_
  obtain ⟨ow3, R3, z3, r3, x3⟩ := r2.hold R2
  obtain ⟨o, s', e, k2⟩ := h2.from x3
  simp only at e
  split at e
  · rename_i dx dy pa pb
    split at e
    · rename_i p
      refine ⟨_, dx, dy, _, fun p hp => R3.nohid hp, r1'.later R3 (x2.trans x3) pa, r3.peek R3 pb, p, fun v H3 gt => ⟨true, (Shows.den gt.2).bl, ?_⟩⟩
      have x4 : Ext (C.Hid ow3) H2 (C.Hid ow3) H3 := gt.1.ext
      have R4 := R3.grown gt.1
      have kk : Kn C (bindF h (fun rc => doneF fun τ => match peek τ (hold rb), peek τ (hold rc) with
        | some y, some z => op' y z
        | _, _ => none)) ow3 τ2 t2 σ H3 Q := Kn.from (H := H2) x4 ⟨o, s', e, k2⟩
      rw [if_pos rfl]
      refine tF_mono (kk.bind R4 z3) fun w H4 ⟨ow5, τ5, t5, rc, R5, r5, h5, x5⟩ => ?_
      obtain ⟨ow6, R6, z6, r6, x6⟩ := r5.hold R5
      obtain ⟨zz, e6, q6⟩ := (h5.from x6).done R6 z6
      split at e6
      · rename_i dy' dz' p1 p2
        exact ⟨_, dy', dz', zz, fun p hp => R6.nohid hp, r3.later R6 ((x4.trans x5).trans x6) (by cases rb <;> exact p1), r6.peek R6 p2, e6, q6⟩
      · cases e6
    · rename_i p
      cases e
      refine ⟨_, dx, dy, _, fun p hp => R3.nohid hp, r1'.later R3 (x2.trans x3) pa, r3.peek R3 pb, p, fun v H3 gt => ⟨false, (Shows.den gt.2).bl, ?_⟩⟩
      rw [if_neg (by decide)]
      exact k2 ow3 _ H3 (R3.grown gt.1) ⟨z3, .bl false⟩ gt.1.ext
    · cases e
  · cases e
theorem ev_chain {o o' : CmpOp} {op op' : D → D → Option (D × Bool)} (ho : OpD Z X (compareOp o) op) (ho' : OpD Z X (compareOp o') op') (ha : PE X a (tF C f)) (hb : PE X b (tF C g)) (hc : PE X c (tF C h))
    (hm : lastMarks [o, o'] [b, c] = false := by with_unfolding_all rfl) : PE X (.Compare a [o, o'] [b, c] pos) (tF C (chainF op op' f g h)) :=
  ⟨fun pins s σ H Q I q => (pe_chain ho ho' ha hb hc hm).run pins s σ H Q I (chain_of q)⟩
end
end FD

/-! F6: statements: blocks, assignments to names and tuples of names, if, return, while. -/
namespace FD
open PySem PySem.Spec PyProof.Rows L2

/-- a statement's end -/
inductive SOut where
  | nx | rt (r : Res) | bk | ct | ex (c : Str) (fs : List (Str × D))
abbrev SF (T : Type) := Sg T → Option (SOut × Sg T)
def FinS {Z : Wd} (C : Fx Z) (ow : Nat → Option Addr) (H : Hp) (E : Ends) (s' : Sg Z.T) : SOut → Prop
  | .nx => ∀ ow' σ' H', C.Rel ow' s'.1 s'.2 σ' H' → ow' 0 = none → Ext (C.Hid ow) H (C.Hid ow') H' → E.nx σ' H'
  | .bk => ∀ ow' σ' H', C.Rel ow' s'.1 s'.2 σ' H' → ow' 0 = none → Ext (C.Hid ow) H (C.Hid ow') H' → E.bk σ' H'
  | .ct => ∀ ow' σ' H', C.Rel ow' s'.1 s'.2 σ' H' → ow' 0 = none → Ext (C.Hid ow) H (C.Hid ow') H' → E.ct σ' H'
  | .rt r => ∀ ow' σ' v H', C.Rel ow' s'.1 s'.2 σ' H' → ResOk C ow' s'.1 σ' H' v r → Ext (C.Hid ow) H (C.Hid ow') H' → E.rt v H'
  | .ex c fs => ∀ ow' σ' d H', C.Rel ow' s'.1 s'.2 σ' H' → ow' 0 = none → Ext (C.Hid ow) H (C.Hid ow') H' → ExOk Z (C.Hid ow') H' d fs → C.W (.ref (Z.ca c)) d σ' H'
def KnS {Z : Wd} (C : Fx Z) (f : SF Z.T) (ow : Nat → Option Addr) (τ : List Sl) (t : Z.T) (H : Hp) (E : Ends) : Prop := ∃ o s', f (τ, t) = some (o, s') ∧ FinS C ow H E s' o
def tS {Z : Wd} (C : Fx Z) (f : SF Z.T) : TS := fun E σ H => ∃ ow τ t, C.Rel ow τ t σ H ∧ ow 0 = none ∧ KnS C f ow τ t H E

def seqF {T : Type} (f g : SF T) : SF T := fun s => match f s with
  | some (.nx, s1) => g s1
  | r => r
def nxF {T : Type} : SF T := fun s => some (.nx, s)
def bkF {T : Type} : SF T := fun s => some (.bk, s)
def ctF {T : Type} : SF T := fun s => some (.ct, s)
/-- a statement over an expression -/
def sbind {T : Type} (f : EF T) (k : Res → SF T) : SF T := fun s => match f s with
  | none => none
  | some (.ex c fs, s1) => some (.ex c fs, s1)
  | some (.ok r, s1) => k r s1
def dropF {T : Type} (f : EF T) : SF T := sbind f fun _ s => some (.nx, s)
/-- what a return takes along: an own slot's object is no one's behind it -/
def retF {T : Type} (f : EF T) : SF T := sbind f fun r s => match r with
  | .s i => match s.1[i]? with
    | some (.v d) => some (.rt (.d d), s)
    | some (.o d) => some (.rt (.f d), (s.1.set i .no, s.2))
    | _ => none
  | r => some (.rt r, s)
def retNF {T : Type} : SF T := fun s => some (.rt (.d .non), s)
def ifF {T : Type} (f : EF T) (g h : SF T) : SF T := sbind f fun r => fun s => match peek s.1 (hold r) with
  | some (.bl true) => g s
  | some (.bl false) => h s
  | _ => none
/-- a result into slot i -/
def storeAt (i : Nat) (τ : List Sl) : Res → Option (List Sl)
  | .f d => some (τ.set i (.o d))
  | r => match give τ r with
    | none => none
    | some (d, τ1) => some (τ1.set i (.v d))
def setF {T : Type} (i : Nat) (f : EF T) : SF T := sbind f fun r s => match storeAt i s.1 r with
  | none => none
  | some τ => some (.nx, (τ, s.2))

section
variable {Z : Wd} {C : Fx Z} {X : Cx} {ow ow' : Nat → Option Addr} {τ : List Sl} {t : Z.T} {σ : L2.St} {H H' : Hp} {E : Ends}
theorem FinS.from (x : Ext (C.Hid ow) H (C.Hid ow') H') {s' : Sg Z.T} {o : SOut} (h : FinS C ow H E s' o) : FinS C ow' H' E s' o := by
  cases o with
  | nx => exact fun ow2 σ2 H2 R2 z x2 => h ow2 σ2 H2 R2 z (x.trans x2)
  | bk => exact fun ow2 σ2 H2 R2 z x2 => h ow2 σ2 H2 R2 z (x.trans x2)
  | ct => exact fun ow2 σ2 H2 R2 z x2 => h ow2 σ2 H2 R2 z (x.trans x2)
  | rt r => exact fun ow2 σ2 v H2 R2 z x2 => h ow2 σ2 v H2 R2 z (x.trans x2)
  | ex c fs => exact fun ow2 σ2 d H2 R2 z x2 e => h ow2 σ2 d H2 R2 z (x.trans x2) e
theorem KnS.from {f : SF Z.T} (x : Ext (C.Hid ow) H (C.Hid ow') H') (h : KnS C f ow τ t H E) : KnS C f ow' τ t H' E := by
  obtain ⟨o, s', e, h⟩ := h
  exact ⟨o, s', e, h.from x⟩
theorem tS_seq {f g : SF Z.T} (h : tS C (seqF f g) E σ H) : tSeq (tS C f) (tS C g) E σ H := by
  obtain ⟨ow, τ, t, R, z, o, s', e, k⟩ := h
  unfold seqF at e
  cases q : f (τ, t) with
  | none => rw [q] at e; cases e
  | some w =>
    obtain ⟨o1, s1⟩ := w
    rw [q] at e
    refine ⟨ow, τ, t, R, z, o1, s1, q, ?_⟩
    cases o1 with
    | nx => exact fun ow1 σ1 H1 R1 z1 x1 => ⟨ow1, s1.1, s1.2, R1, z1, o, s', e, k.from x1⟩
    | rt r => cases e; exact k
    | bk => cases e; exact k
    | ct => cases e; exact k
    | ex c fs => cases e; exact k
theorem sv_nil : PSs X [] (tS C nxF) := ⟨fun pins s σ H E I h => pss_nil.run pins s σ H E I (by
  obtain ⟨ow, τ, t, R, z, o, s', e, k⟩ := h
  cases e
  exact k ow σ H R z .refl)⟩
theorem sv_one {st : Stmt} {f : SF Z.T} (h : PS X st (tS C f)) : PSs X [st] (tS C f) := pss_one h
theorem sv_cons {st : Stmt} {rest : List Stmt} {f g : SF Z.T} (h1 : PS X st (tS C f)) (h2 : PSs X rest (tS C g)) : PSs X (st :: rest) (tS C (seqF f g)) :=
  ⟨fun pins s σ H E I h => (pss_cons h1 h2).run pins s σ H E I (tS_seq h)⟩
/-- a statement that begins with an expression -/
theorem tS_bind {f : EF Z.T} {k : Res → SF Z.T} (h : tS C (sbind f k) E σ H) : tF C f σ H fun v H1 => ∃ ow1 τ1 t1 r, C.Rel ow1 τ1 t1 σ H1 ∧ ResOk C ow1 τ1 σ H1 v r ∧ KnS C (k r) ow1 τ1 t1 H1 E := by
  obtain ⟨ow, τ, t, R, h0, o, s', e, h⟩ := h
  unfold sbind at e
  cases q : f (τ, t) with
  | none => rw [q] at e; cases e
  | some z =>
    obtain ⟨o1, s1⟩ := z
    rw [q] at e
    cases o1 with
    | ex c fs =>
      cases e
      exact ⟨ow, τ, t, _, _, R, h0, q, fun ow' d H' R' z x e => h ow' σ d H' R' z x e⟩
    | ok r => exact ⟨ow, τ, t, _, _, R, h0, q, fun ow1 v H1 R1 r1 x1 => ⟨ow1, s1.1, s1.2, r, R1, r1, ⟨o, s', e, h.from x1⟩⟩⟩
theorem sv_expr {e : Expr} {f : EF Z.T} {pos : Pos} (he : PE X e (tF C f)) (hs : swapsWith e none pos.line X.env = pure false := by rfl) : PS X (.Expr e pos) (tS C (dropF f)) :=
  ⟨fun pins s σ H E I h => (ps_expr he hs).run pins s σ H E I (tF_mono (tS_bind h) fun v H1 ⟨ow1, τ1, t1, r, R1, r1, k⟩ => by
    obtain ⟨ow2, R2, z2, _, x2⟩ := r1.hold R1
    obtain ⟨o, s', e, k⟩ := k
    cases e
    exact k ow2 σ H1 R2 z2 x2)⟩
/-- own slot i is moved: it is pending -/
def move (ow : Nat → Option Addr) (i j : Nat) : Nat → Option Addr := fun k => if k = j then ow i else if k = i then none else ow k
theorem move_some {ow : Nat → Option Addr} {i j k : Nat} {a : Addr} (h : move ow i j k = some a) : (k = j ∧ ow i = some a) ∨ (k ≠ j ∧ k ≠ i ∧ ow k = some a) := by
  unfold move at h
  split at h
  · exact .inl ⟨by assumption, h⟩
  · split at h
    · cases h
    · exact .inr ⟨by assumption, by assumption, h⟩
theorem hid_move {O₀ : Addr → Prop} {ow : Nat → Option Addr} {i j : Nat} {a : Addr} (h : Hid O₀ (move ow i j) a) : Hid O₀ ow a := by
  rcases h with h | ⟨k, e⟩
  · exact .inl h
  · rcases move_some e with ⟨_, e⟩ | ⟨_, _, e⟩
    · exact .inr ⟨i, e⟩
    · exact .inr ⟨k, e⟩
theorem ext_move {O₀ : Addr → Prop} {ow : Nat → Option Addr} {i j : Nat} {H : Hp} : Ext (Hid O₀ ow) H (Hid O₀ (move ow i j)) H := ⟨fun _ _ e _ => e, fun _ h => .inl (hid_move h)⟩
theorem move_inj {ow : Nat → Option Addr} {i j : Nat} (hij : i ≠ j) (inj : ∀ i j a, ow i = some a → ow j = some a → i = j) : ∀ k l a, move ow i j k = some a → move ow i j l = some a → k = l := by
  intro k l a h1 h2
  rcases move_some h1 with ⟨e1, e2⟩ | ⟨n1, n2, e2⟩
  · rcases move_some h2 with ⟨e3, _⟩ | ⟨_, n4, e4⟩
    · rw [e1, e3]
    · exact absurd (inj _ _ _ e4 e2) n4
  · rcases move_some h2 with ⟨_, e4⟩ | ⟨_, _, e4⟩
    · exact absurd (inj _ _ _ e2 e4) n2
    · exact inj _ _ _ e2 e4
theorem Rel.take {i : Nat} {d : D} (R : C.Rel ow τ t σ H) (e : τ[i]? = some (.o d)) : C.Rel (move ow (i + 1) 0) (τ.set i .no) t σ H where
  on := R.on
  hid := R.hid
  hidT := R.hidT
  grow := R.grow
  len := by rw [List.length_set]; exact R.len
  slot := fun j s h => by
    by_cases q : j = i
    · subst q
      have hl : j < τ.length := (List.getElem?_eq_some_iff.mp e).1
      rw [List.getElem?_set_self hl] at h
      cases h
      trivial
    · rw [List.getElem?_set_ne (Ne.symm q)] at h
      exact (R.slot j s h).ext ext_move fun a h => ⟨by
        unfold move
        rw [if_neg (by omega), if_neg (by omega)]
        exact h, rfl⟩
  inj := move_inj (by omega) R.inj
  new := fun k a h => by
    rcases move_some h with ⟨_, e⟩ | ⟨_, _, e⟩
    · exact R.new _ a e
    · exact R.new _ a e
theorem sv_ret {e : Expr} {f : EF Z.T} {pos : Pos} (he : PE X e (tF C f)) : PS X (.Return (some e) pos) (tS C (retF f)) :=
  ⟨fun pins s σ H E I h => (ps_ret he).run pins s σ H E I (tF_mono (tS_bind h) fun v H1 ⟨ow1, τ1, t1, r, R1, r1, k⟩ => by
    obtain ⟨o, s', e, k⟩ := k
    cases r with
    | d d =>
      cases e
      exact k ow1 σ v H1 R1 r1 .refl
    | f d =>
      cases e
      exact k ow1 σ v H1 R1 r1 .refl
    | s i =>
      obtain ⟨z, r1⟩ := r1
      simp only at e
      split at e
      · rename_i d p
        cases e
        obtain ⟨v', e1, q⟩ := R1.slot i _ p
        rw [r1] at e1
        cases e1
        exact k ow1 σ v H1 R1 ⟨z, q⟩ .refl
      · rename_i d p
        cases e
        obtain ⟨a, o, e1, e2, e3, c⟩ := R1.slot i _ p
        rw [r1] at e2
        cases e2
        refine k (move ow1 (i + 1) 0) σ _ H1 (R1.take p) ⟨a, o, ?_, rfl, e3, c.ext ext_move⟩ ext_move
        unfold move
        rw [if_pos rfl]
        exact e1
      · cases e)⟩
theorem tS_if {f : EF Z.T} {g h : SF Z.T} (q : tS C (ifF f g h) E σ H) : tT C f σ H fun b H1 => if b = true then tS C g E σ H1 else tS C h E σ H1 := by
  obtain ⟨ow, τ, t, R, z, o, s', e, k⟩ := q
  unfold ifF sbind at e
  cases q : f (τ, t) with
  | none => rw [q] at e; cases e
  | some w =>
    obtain ⟨o1, s1⟩ := w
    rw [q] at e
    cases o1 with
    | ex c fs =>
      cases e
      exact ⟨ow, τ, t, R, z, _, _, q, fun ow' d H' R' z x e => k ow' σ d H' R' z x e⟩
    | ok r =>
      simp only at e
      split at e
      · rename_i p
        exact ⟨ow, τ, t, R, z, _, _, q, true, p, fun ow1 H1 R1 z1 x1 => by dsimp only; rw [if_pos rfl]; exact ⟨ow1, s1.1, s1.2, R1, z1, o, s', e, k.from x1⟩⟩
      · rename_i p
        exact ⟨ow, τ, t, R, z, _, _, q, false, p, fun ow1 H1 R1 z1 x1 => by dsimp only; rw [if_neg (by decide)]; exact ⟨ow1, s1.1, s1.2, R1, z1, o, s', e, k.from x1⟩⟩
      · cases e
theorem sv_if {c : Expr} {a b : List Stmt} {f : EF Z.T} {g h : SF Z.T} {pos : Pos} (hc : PT X c (tT C f)) (ha : PSs X a (tS C g)) (hb : PSs X b (tS C h)) : PS X (.If c a b pos) (tS C (ifF f g h)) :=
  ⟨fun pins s σ H E I q => (ps_if hc ha hb).run pins s σ H E I (tS_if q)⟩

/-! ### stores to names -/
theorem Rel.set {i : Nat} {v : V} {d : D} (R : C.Rel ow τ t σ H) (h : Den Z (C.Hid ow) H v d) : C.Rel (drop ow (i + 1)) (τ.set i (.v d)) t (σ.set i (some v)) H where
  on := R.on
  hid := R.hid
  hidT := R.hidT
  grow := R.grow
  len := by rw [List.length_set, List.length_set]; exact R.len
  slot := fun j s q => by
    by_cases e : j = i
    · subst e
      have hl : j < τ.length := by
        have := (List.getElem?_eq_some_iff.mp q).1
        rwa [List.length_set] at this
      rw [List.getElem?_set_self hl] at q
      cases q
      exact ⟨v, List.getElem?_set_self (by rw [← R.len]; exact hl), h.ext ext_drop⟩
    · rw [List.getElem?_set_ne (Ne.symm e)] at q
      have := (R.slot j s q).ext (ow' := drop ow (i + 1)) (ext_drop (i := i + 1)) fun a h => ⟨by rw [drop_ne (by omega)]; exact h, rfl⟩
      cases s with
      | no => trivial
      | x => exact ⟨(List.getElem?_set_ne (Ne.symm (by assumption))).trans this.1, this.2⟩
      | v d => 
        obtain ⟨v', e1, e2⟩ := this
        exact ⟨v', by rw [List.getElem?_set_ne (Ne.symm e)]; exact e1, e2⟩
      | o d =>
        obtain ⟨a, o, e1, e2, e3, c⟩ := this
        exact ⟨a, o, e1, by rw [List.getElem?_set_ne (Ne.symm e)]; exact e2, e3, c⟩
  inj := fun i j a h1 h2 => R.inj i j a (drop_some h1).1 (drop_some h2).1
  new := fun i a h => R.new i a (drop_some h).1
theorem Rel.setOwn {i : Nat} {a : Addr} {o : HO} {d : D} (R : C.Rel ow τ t σ H) (h0 : ow 0 = some a) (e : H a = some o) (c : Cont Z (C.Hid ow) H o d) : C.Rel (move ow 0 (i + 1)) (τ.set i (.o d)) t (σ.set i (some (.ref a))) H where
  on := R.on
  hid := R.hid
  hidT := R.hidT
  grow := R.grow
  len := by rw [List.length_set, List.length_set]; exact R.len
  slot := fun j s q => by
    by_cases e2 : j = i
    · subst e2
      have hl : j < τ.length := by
        have := (List.getElem?_eq_some_iff.mp q).1
        rwa [List.length_set] at this
      rw [List.getElem?_set_self hl] at q
      cases q
      refine ⟨a, o, ?_, List.getElem?_set_self (by rw [← R.len]; exact hl), e, c.ext ext_move⟩
      unfold move
      rw [if_pos rfl]
      exact h0
    · rw [List.getElem?_set_ne (Ne.symm e2)] at q
      have := (R.slot j s q).ext (ow' := move ow 0 (i + 1)) (ext_move (i := 0) (j := i + 1)) fun a h => ⟨by
        unfold move
        rw [if_neg (by omega), if_neg (by omega)]
        exact h, rfl⟩
      cases s with
      | no => trivial
      | x => exact ⟨(List.getElem?_set_ne (Ne.symm (by assumption))).trans this.1, this.2⟩
      | v d => 
        obtain ⟨v', e1, e3⟩ := this
        exact ⟨v', by rw [List.getElem?_set_ne (Ne.symm e2)]; exact e1, e3⟩
      | o d =>
        obtain ⟨a, o, e1, e3, e4, c⟩ := this
        exact ⟨a, o, e1, by rw [List.getElem?_set_ne (Ne.symm e2)]; exact e3, e4, c⟩
  inj := move_inj (by omega) R.inj
  new := fun k b h => by
    rcases move_some h with ⟨_, e⟩ | ⟨_, _, e⟩
    · exact R.new _ b e
    · exact R.new _ b e
theorem drop_zero {i : Nat} (h : ow 0 = none) : drop ow (i + 1) 0 = none := by rw [drop_ne (by omega)]; exact h
theorem Rel.store {i : Nat} {v : V} {r : Res} {τ' : List Sl} (R : C.Rel ow τ t σ H) (h : ResOk C ow τ σ H v r) (e : storeAt i τ r = some τ') :
    ∃ ow', C.Rel ow' τ' t (σ.set i (some v)) H ∧ ow' 0 = none ∧ Ext (C.Hid ow) H (C.Hid ow') H := by
  have go : ∀ r : Res, ResOk C ow τ σ H v r → (match give τ r with | none => none | some (d, τ1) => some (τ1.set i (.v d))) = some τ' → ∃ ow', C.Rel ow' τ' t (σ.set i (some v)) H ∧ ow' 0 = none ∧ Ext (C.Hid ow) H (C.Hid ow') H := fun r h e => by
    split at e
    · cases e
    · rename_i d τ1 p
      cases e
      obtain ⟨ow1, R1, z1, d1, x1⟩ := h.give R p
      exact ⟨_, R1.set d1, drop_zero z1, x1.trans ext_drop⟩
  cases r with
  | d d => exact go _ h e
  | s j => exact go _ h e
  | f d =>
    cases e
    obtain ⟨a, o, h1, rfl, h3, c⟩ := h
    refine ⟨_, R.setOwn h1 h3 c, ?_, ext_move⟩
    unfold move
    rw [if_neg (by omega), if_pos rfl]
theorem tS_set {i : Nat} {f : EF Z.T} (h : tS C (setF i f) E σ H) : tAsg (tF C f) (gName i) E σ H :=
  tF_mono (tS_bind h) fun v H1 ⟨ow1, τ1, t1, r, R1, r1, k⟩ => by
    obtain ⟨o, s', e, k⟩ := k
    simp only at e
    split at e
    · cases e
    · rename_i τ2 p
      cases e
      obtain ⟨ow2, R2, z2, x2⟩ := R1.store r1 p
      exact k ow2 _ H1 R2 z2 x2
theorem sv_set {i : Nat} {x : Str} {e : Expr} {f : EF Z.T} {pos pos' : Pos} (hN : X.N.Nodup) (hi : X.N[i]? = some x) (hx : Loc X.env.scope x) (he : PE X e (tF C f)) (hs : swapsWith e (some (.Name x pos')) pos.line X.env = pure false := by rfl)
    (hf : X.fn x = true ∨ X.env.scope.names.lookup x = some .local := by first | exact .inl rfl | exact .inr rfl) : PS X (.Assign [.Name x pos'] e pos) (tS C (setF i f)) :=
  ⟨fun pins s σ H E I h => (ps_set hN hi hx he hs hf).run pins s σ H E I (tS_set h)⟩
end
end FD

/-! F7: targets, loops, comprehensions. -/
namespace FD
open PySem PySem.Spec PyProof.Rows L2

/-! ### targets -/
abbrev GF := D → List Sl → Option (List Sl)
abbrev GFs := List D → List Sl → Option (List Sl)
/-- slots outside S are as they were -/
def Off (S : List Nat) (σ σ' : L2.St) : Prop := σ'.length = σ.length ∧ ∀ j, j ∉ S → σ'[j]? = σ[j]?
theorem Off.refl {S : List Nat} {σ : L2.St} : Off S σ σ := ⟨rfl, fun _ _ => rfl⟩
theorem Off.trans {S : List Nat} {σ σ' σ'' : L2.St} (a : Off S σ σ') (b : Off S σ' σ'') : Off S σ σ'' := ⟨b.1.trans a.1, fun j h => (b.2 j h).trans (a.2 j h)⟩
def tG {Z : Wd} (C : Fx Z) (S : List Nat) (g : GF) : TG := fun v σ H Q => ∃ ow τ t d τ', C.Rel ow τ t σ H ∧ ow 0 = none ∧ Den Z (C.Hid ow) H v d ∧ g d τ = some τ' ∧
  ∀ ow' σ', C.Rel ow' τ' t σ' H → ow' 0 = none → Ext (C.Hid ow) H (C.Hid ow') H → Off S σ σ' → Q σ' H
def tGs {Z : Wd} (C : Fx Z) (S : List Nat) (g : GFs) : TGs := fun vs σ H Q => ∃ ow τ t ds τ', C.Rel ow τ t σ H ∧ ow 0 = none ∧ DenA Z (C.Hid ow) H vs ds ∧ g ds τ = some τ' ∧
  ∀ ow' σ', C.Rel ow' τ' t σ' H → ow' 0 = none → Ext (C.Hid ow) H (C.Hid ow') H → Off S σ σ' → Q σ' H
def nameG (i : Nat) : GF := fun d τ => some (τ.set i (.v d))
def nilG : GFs := fun ds τ => match ds with
  | [] => some τ
  | _ => none
def consG (g : GF) (h : GFs) : GFs := fun ds τ => match ds with
  | [] => none
  | d :: ds => match g d τ with
    | none => none
    | some τ1 => h ds τ1
def tupG (n : Nat) (h : GFs) : GF := fun d τ => match d with
  | .tup ds => if ds.length = n then h ds τ else none
  | _ => none
section
variable {Z : Wd} {C : Fx Z} {X : Cx} {ow : Nat → Option Addr} {τ : List Sl} {t : Z.T} {σ : L2.St} {H H' : Hp} {S : List Nat}
theorem off_set {i : Nat} {v : Option V} (h : i ∈ S) : Off S σ (σ.set i v) := ⟨List.length_set, fun j hj => List.getElem?_set_ne (fun e => hj (by rw [← e]; exact h))⟩
theorem gv_name {i : Nat} {x : Str} {pos : Pos} (hN : X.N.Nodup) (hi : X.N[i]? = some x) (hx : Loc X.env.scope x) (hf : X.fn x = true ∨ X.env.scope.names.lookup x = some .local := by first | exact .inl rfl | exact .inr rfl) (hS : i ∈ S := by decide) :
    PG X (.Name x pos) (tG C S (nameG i)) := ⟨fun pins s σ H v u Q I r h => (pg_name hN hi hx hf).run pins s σ H v u Q I r (by
  obtain ⟨ow, τ, t, d, τ', R, z, dn, e, k⟩ := h
  cases e
  exact k _ _ (R.set dn) (drop_zero z) ext_drop (off_set hS))⟩
theorem gv_nil : PGs X [] (tGs C S nilG) := ⟨fun pins s σ H v u Q I r h => pgs_nil.run pins s σ H v u Q I r (by
  obtain ⟨ow, τ, t, d, τ', R, z, dn, e, k⟩ := h
  cases dn with
  | nil =>
    cases e
    exact ⟨rfl, k _ _ R z .refl .refl⟩
  | cons _ _ => cases e)⟩
theorem gv_cons {e : Expr} {es : List Expr} {g : GF} {h : GFs} (h1 : PG X e (tG C S g)) (h2 : PGs X es (tGs C S h)) (hs : (assignEach (e :: es) X.env).map (·.2) = assign e X.env :: (assignEach es X.env).map (·.2) := by rfl) : PGs X (e :: es) (tGs C S (consG g h)) := ⟨fun pins s σ H v u Q I r q => (pgs_cons h1 h2 hs).run pins s σ H v u Q I r (by
  obtain ⟨ow, τ, t, d, τ', R, z, dn, e, k⟩ := q
  cases dn with
  | nil => cases e
  | cons d1 d2 =>
    unfold consG at e
    simp only at e
    split at e
    · cases e
    · rename_i τ1 p
      exact ⟨_, _, rfl, ow, τ, t, _, τ1, R, z, d1, p, fun ow1 σ1 R1 z1 x1 f1 => ⟨ow1, τ1, t, _, τ', R1, z1, d2.ext x1, e, fun ow2 σ2 R2 z2 x2 f2 => k ow2 σ2 R2 z2 (x1.trans x2) (f1.trans f2)⟩⟩)⟩
theorem gv_tup {es : List Expr} {k n : Nat} {h : GFs} {pos : Pos} (hc : X.calm = true) (q : PGs X es (tGs C S h)) (hn : (assignEach es X.env).length = n := by rfl) (hst : (assignEach es X.env).findIdx? (·.1) = none := by rfl) : PG X (.Tuple es k pos) (tG C S (tupG n h)) := ⟨fun pins s σ H v u Q I r w => (pg_tup (n := n) hc q hn hst).run pins s σ H v u Q I r (by
  obtain ⟨ow, τ, t, d, τ', R, z, dn, e, k⟩ := w
  unfold tupG at e
  split at e
  · split at e
    · rename_i hl
      obtain ⟨a, xs, rfl, h1, c, _⟩ := (Shows.den dn).tup
      exact ⟨a, xs, rfl, SqT.of h1, c.len.trans hl, ow, τ, t, _, τ', R, z, c, e, k⟩
    · cases e
  · cases e)⟩
end

/-! ### what is walked -/
inductive OutI where
  | ok (ds : List D) | ex (c : Str) (fs : List (Str × D))
abbrev IF (T : Type) := Sg T → Option (OutI × Sg T)
/-- a walk that gives the data ds -/
def Walks (Z : Wd) (O : Addr → Prop) (H : Hp) (J : It) (ds : List D) : Prop := ∃ (G : Hp → Prop) (Y : Nat → Hp → V → Hp → Prop), Walk J ds.length G Y ∧ (∀ O' H', Ext O H O' H' → G H') ∧
  ∀ i H1 x H2 O1, i < ds.length → Ext O H O1 H1 → (∀ p, H1 p = none → ¬ O1 p) → Y i H1 x H2 → ∃ d, ds[i]? = some d ∧ Grow H1 H2 ∧ Den Z O1 H2 x d
def FinI {Z : Wd} (C : Fx Z) (ow : Nat → Option Addr) (σ : L2.St) (H : Hp) (R : It → Hp → Prop) (s' : Sg Z.T) : OutI → Prop
  | .ok ds => ∀ ow' J H', C.Rel ow' s'.1 s'.2 σ H' → ow' 0 = none → Ext (C.Hid ow) H (C.Hid ow') H' → Walks Z (C.Hid ow') H' J ds → R J H'
  | .ex c fs => ∀ ow' d H', C.Rel ow' s'.1 s'.2 σ H' → ow' 0 = none → Ext (C.Hid ow) H (C.Hid ow') H' → ExOk Z (C.Hid ow') H' d fs → C.W (.ref (Z.ca c)) d σ H'
def tI {Z : Wd} (C : Fx Z) (f : IF Z.T) : TI := fun σ H R => ∃ ow τ t o s', C.Rel ow τ t σ H ∧ ow 0 = none ∧ f (τ, t) = some (o, s') ∧ FinI C ow σ H R s' o

/-- for .. in ..: the items one after the other -/
def forL {T : Type} (g : GF) (b : SF T) : List D → SF T
  | [] => nxF
  | d :: ds => fun s => match g d s.1 with
    | none => none
    | some τ => match b (τ, s.2) with
      | none => none
      | some (.nx, s1) => forL g b ds s1
      | some (.ct, s1) => forL g b ds s1
      | some (.bk, s1) => some (.nx, s1)
      | some (.rt r, s1) => some (.rt r, s1)
      | some (.ex c fs, s1) => some (.ex c fs, s1)
def forF {T : Type} (it : IF T) (g : GF) (b : SF T) : SF T := fun s => match it s with
  | none => none
  | some (.ex c fs, s1) => some (.ex c fs, s1)
  | some (.ok ds, s1) => forL g b ds s1
section
variable {Z : Wd} {C : Fx Z} {X : Cx} {ow ow1 : Nat → Option Addr} {τ : List Sl} {t : Z.T} {σ : L2.St} {H H1 H' : Hp} {S : List Nat} {E : Ends}
theorem Walks.ext {O O' : Addr → Prop} {J : It} {ds : List D} (w : Walks Z O H J ds) (x : Ext O H O' H') : Walks Z O' H' J ds := by
  obtain ⟨G, Y, w, g, y⟩ := w
  exact ⟨G, Y, w, fun O2 H2 x2 => g O2 H2 (x.trans x2), fun i H1 v H2 O1 hi x1 => y i H1 v H2 O1 hi (x.trans x1)⟩
theorem tS_for {it : IF Z.T} {g : GF} {b : SF Z.T} (h : tS C (forF it g b) E σ H) : tFor (tI C it) (tG C S g) (tS C b) E σ H := by
  obtain ⟨ow, τ, t, R, z, o, s', e, k⟩ := h
  unfold forF at e
  cases q : it (τ, t) with
  | none => rw [q] at e; cases e
  | some w =>
    obtain ⟨o1, s1⟩ := w
    rw [q] at e
    refine ⟨ow, τ, t, o1, s1, R, z, q, ?_⟩
    cases o1 with
    | ex c fs =>
      cases e
      exact fun ow' d H' R' z x e => k ow' σ d H' R' z x e
    | ok ds =>
      intro ow1 J H1 R1 z1 x1 w1
      simp only at e
      obtain ⟨G, Y, wk, hG, hY⟩ := w1
      refine for_it wk (fun i σ2 H2 => ∃ ow2 τ2 t2, C.Rel ow2 τ2 t2 σ2 H2 ∧ ow2 0 = none ∧ Ext (C.Hid ow1) H1 (C.Hid ow2) H2 ∧ KnS C (forL g b (ds.drop i)) ow2 τ2 t2 H2 { nx := E.nx, rt := E.rt, bk := fun _ _ => False, ct := fun _ _ => False }) ?_ ?_ ?_ ?_
      · refine ⟨ow1, s1.1, s1.2, R1, z1, .refl, o, s', e, ?_⟩
        have k1 := k.from x1
        -- a for of its own breaks nothing
        have noB : ∀ (ds : List D) (s : Sg Z.T) (o : SOut) (s' : Sg Z.T), forL g b ds s = some (o, s') → o ≠ .bk ∧ o ≠ .ct := by
          intro ds
          induction ds with
          | nil =>
            intro s o s' e
            cases e
            exact ⟨nofun, nofun⟩
          | cons d ds ih =>
            intro s o s' e
            unfold forL at e
            split at e
            · cases e
            · split at e
              · cases e
              · exact ih _ _ _ e
              · exact ih _ _ _ e
              · cases e
                exact ⟨nofun, nofun⟩
              · cases e
                exact ⟨nofun, nofun⟩
              · cases e
                exact ⟨nofun, nofun⟩
        have nb := noB _ _ _ _ e
        cases o with
        | nx => exact k1
        | rt r => exact k1
        | bk => exact absurd rfl nb.1
        | ct => exact absurd rfl nb.2
        | ex c fs => exact k1
      · rintro i σ2 H2 hi ⟨ow2, τ2, t2, R2, z2, x2, _⟩
        exact hG _ _ x2
      · rintro i x σ2 H2 H3 hi ⟨ow2, τ2, t2, R2, z2, x2, o2, s2, e2, k2⟩ y
        obtain ⟨d, hd, gr, dn⟩ := hY i H2 x H3 _ hi x2 (fun p hp => R2.nohid hp) y
        have hdr : ds.drop i = d :: ds.drop (i + 1) := by
          rw [List.drop_eq_getElem_cons hi]
          have : ds[i] = d := by
            have := List.getElem?_eq_getElem hi
            rw [hd] at this
            exact (Option.some.inj this).symm
          rw [this]
        rw [hdr] at e2
        unfold forL at e2
        simp only at e2
        split at e2
        · cases e2
        · rename_i τ3 p3
          refine ⟨ow2, τ2, t2, d, τ3, R2.grown gr, z2, dn, p3, fun ow3 σ3 R3 z3 x3 _ => ?_⟩
          have x23 := (gr.ext (O := C.Hid ow2)).trans x3
          split at e2
          · cases e2
          · rename_i s4 p4
            refine ⟨ow3, τ3, t2, R3, z3, .nx, s4, p4, fun ow4 σ4 H4 R4 z4 x4 => ?_⟩
            exact ⟨ow4, s4.1, s4.2, R4, z4, (x2.trans x23).trans x4, o2, s2, e2, k2.from (x23.trans x4)⟩
          · rename_i s4 p4
            refine ⟨ow3, τ3, t2, R3, z3, .ct, s4, p4, fun ow4 σ4 H4 R4 z4 x4 => ?_⟩
            exact ⟨ow4, s4.1, s4.2, R4, z4, (x2.trans x23).trans x4, o2, s2, e2, k2.from (x23.trans x4)⟩
          · rename_i s4 p4
            cases e2
            refine ⟨ow3, τ3, t2, R3, z3, .bk, _, p4, fun ow4 σ4 H4 R4 z4 x4 => ?_⟩
            exact k2 ow4 σ4 H4 R4 z4 (x23.trans x4)
          · rename_i r s4 p4
            cases e2
            exact ⟨ow3, τ3, t2, R3, z3, .rt r, _, p4, fun ow4 σ4 v H4 R4 r4 x4 => k2 ow4 σ4 v H4 R4 r4 (x23.trans x4)⟩
          · rename_i c fs s4 p4
            cases e2
            exact ⟨ow3, τ3, t2, R3, z3, .ex c fs, _, p4, fun ow4 σ4 d4 H4 R4 z4 x4 e4 => k2 ow4 σ4 d4 H4 R4 z4 (x23.trans x4) e4⟩
      · rintro σ2 H2 ⟨ow2, τ2, t2, R2, z2, x2, o2, s2, e2, k2⟩
        rw [List.drop_length] at e2
        cases e2
        exact k2 ow2 σ2 H2 R2 z2 .refl
theorem sv_for {tg iter : Expr} {body : List Stmt} {pos : Pos} {it : IF Z.T} {g : GF} {b : SF Z.T} (hp : PassesOwn (model X.prog X.w) X.A X.env X.xe) (hc : X.calm = true) (hi : PI X tg iter (tI C it)) (hg : PG X tg (tG C S g)) (hb : PSs X body (tS C b))
    (hs : ∀ x, foldedSetIterable iter X.env x = pure x := by intro _; rfl) : PS X (.For tg iter body [] pos) (tS C (forF it g b)) :=
  ⟨fun pins s σ H E I h => (ps_for hp hc hi hg hb hs).run pins s σ H E I (tS_for h)⟩
end
end FD

/-! F8: changes of own objects, comprehensions. -/
namespace FD
open PySem PySem.Spec PyProof.Rows L2

section
variable {Z : Wd} {C : Fx Z} {X : Cx} {ow ow1 : Nat → Option Addr} {τ : List Sl} {t : Z.T} {σ : L2.St} {H H1 H' : Hp}
theorem Rel.own_ne (R : C.Rel ow τ t σ H) {j : Nat} {a : Addr} (e : ow j = some a) : ¬ C.O a := fun h => by
  obtain ⟨o, h1, _⟩ := R.hidT a h
  rw [(R.new j a e).1] at h1
  cases h1
theorem ext_upd {O : Addr → Prop} {a : Addr} {o : HO} (h : O a) : Ext O H O (upd H a o) := ⟨fun b u e n => by
  rw [upd_ne (fun z => n (by rw [z]; exact h))]
  exact e, fun _ q => .inl q⟩
/-- an own object that is in no slot changes -/
theorem Rel.mutK (R : C.Rel ow τ t σ H) {j : Nat} {a : Addr} {o o0 : HO} (e : ow j = some a) (hj : τ.length < j) (n : ∀ xs, o ≠ .tup xs) (e0 : H a = some o0) (n0 : ∀ φ, o0 ≠ .ext φ) : C.Rel ow τ t σ (upd H a o) where
  on := Z.loc t H _ R.on fun b u hb q => by
    rw [upd_ne (fun z => ?_)]
    · exact q
    · rcases hb with hb | ⟨φ, rfl⟩
      · exact R.own_ne e (by rw [← z]; exact R.hid b hb)
      · rw [z, e0] at q
        exact n0 φ (Option.some.inj q)
  hid := R.hid
  hidT := R.hidT
  grow := fun b u q nb => by
    rw [upd_ne (fun z => by rw [z, (R.new j a e).1] at q; cases q)]
    exact R.grow b u q nb
  len := R.len
  slot := fun i s q => (R.slot i s q).ext (ext_upd (.inr ⟨j, e⟩)) fun b h => ⟨h, upd_ne fun z => by
    have := R.inj (i + 1) j a (by rw [← z]; exact h) e
    have := (List.getElem?_eq_some_iff.mp q).1
    omega⟩
  inj := R.inj
  new := fun i b h => by
    obtain ⟨h1, u, h2, m⟩ := R.new i b h
    refine ⟨h1, ?_⟩
    by_cases z : b = a
    · rw [z]; exact ⟨o, upd_same, n⟩
    · exact ⟨u, by rw [upd_ne z]; exact h2, m⟩
/-- slot i's own object changes -/
theorem Rel.mutS (R : C.Rel ow τ t σ H) {i : Nat} {a : Addr} {o : HO} {d d' : D} (e : ow (i + 1) = some a) (hs : τ[i]? = some (.o d)) (n : ∀ xs, o ≠ .tup xs) (c : Cont Z (C.Hid ow) H o d') : C.Rel ow (τ.set i (.o d')) t σ (upd H a o) where
  on := Z.loc t H _ R.on fun b u hb q => by
    rw [upd_ne (fun z => ?_)]
    · exact q
    · rcases hb with hb | ⟨φ, rfl⟩
      · exact R.own_ne e (by rw [← z]; exact R.hid b hb)
      · obtain ⟨a1, o1, f1, _, f3, c1⟩ := R.slot i _ hs
        rw [e] at f1
        cases f1
        rw [z, f3] at q
        cases q
        cases c1
  hid := R.hid
  hidT := R.hidT
  grow := fun b u q nb => by
    rw [upd_ne (fun z => by rw [z, (R.new _ a e).1] at q; cases q)]
    exact R.grow b u q nb
  len := by rw [List.length_set]; exact R.len
  slot := fun k s q => by
    by_cases z : k = i
    · subst z
      rw [List.getElem?_set_self (List.getElem?_eq_some_iff.mp hs).1] at q
      cases q
      obtain ⟨b, u, e1, e2, e3, _⟩ := R.slot k _ hs
      rw [e] at e1
      cases e1
      exact ⟨a, o, e, e2, upd_same, c.ext (ext_upd (.inr ⟨_, e⟩))⟩
    · rw [List.getElem?_set_ne (Ne.symm z)] at q
      exact (R.slot k s q).ext (ext_upd (.inr ⟨_, e⟩)) fun b h => ⟨h, upd_ne fun y => z (by
        have := R.inj (k + 1) (i + 1) a (by rw [← y]; exact h) e
        omega)⟩
  inj := R.inj
  new := fun i b h => by
    obtain ⟨h1, u, h2, m⟩ := R.new i b h
    refine ⟨h1, ?_⟩
    by_cases z : b = a
    · rw [z]; exact ⟨o, upd_same, n⟩
    · exact ⟨u, by rw [upd_ne z]; exact h2, m⟩
/-- a new object is laid and parked at an index that no slot has -/
theorem Rel.park {p : Addr} {o : HO} {K : Nat} (R : C.Rel ow τ t σ H) (hK : τ.length < K) (h : H p = none) (hn : ∀ xs, o ≠ .tup xs) : C.Rel (put ow K p) τ t σ (upd H p o) where
  on := Z.loc t H _ R.on fun a u _ e => Grow.new h a u e
  hid := R.hid
  hidT := R.hidT
  grow := fun a u e n => Grow.new h a u (R.grow a u e n)
  len := R.len
  slot := fun i s e => (R.slot i s e).ext (ext_put h) fun a q => ⟨by
    have := (List.getElem?_eq_some_iff.mp e).1
    rw [put_ne (by omega)]; exact q, by
    obtain ⟨_, u, e, _⟩ := R.new _ a q
    rw [e]
    exact Grow.new h a u e⟩
  inj := fun i j a h1 h2 => by
    have old : ∀ i a, ow i = some a → a ≠ p := fun i a q z => by
      obtain ⟨_, u, e, _⟩ := R.new i a q
      rw [z, h] at e
      cases e
    rcases put_some h1 with ⟨e1, e2⟩ | ⟨_, e2⟩
    · rcases put_some h2 with ⟨e3, _⟩ | ⟨_, e4⟩
      · rw [e1, e3]
      · exact absurd e2 (old j a e4)
    · rcases put_some h2 with ⟨_, e3⟩ | ⟨_, e4⟩
      · exact absurd e3 (old i a e2)
      · exact R.inj i j a e2 e4
  new := fun i a q => by
    rcases put_some q with ⟨_, e⟩ | ⟨_, e⟩
    · subst e
      refine ⟨?_, o, upd_same, hn⟩
      cases z : C.H a with
      | none => rfl
      | some u =>
        by_cases g : Z.hid a
        · obtain ⟨u', e', _⟩ := Z.trk t H a R.on g
          rw [h] at e'
          cases e'
        · have := R.grow a u z g
          rw [h] at this
          cases this
    · obtain ⟨h1, u, e2, n⟩ := R.new i a e
      exact ⟨h1, u, Grow.new h a u e2, n⟩
/-- what was parked is pending -/
theorem Rel.unpark {K : Nat} (R : C.Rel ow τ t σ H) (hK : τ.length < K) : C.Rel (move ow K 0) τ t σ H where
  on := R.on
  hid := R.hid
  hidT := R.hidT
  grow := R.grow
  len := R.len
  slot := fun i s e => (R.slot i s e).ext ext_move fun a q => ⟨by
    have := (List.getElem?_eq_some_iff.mp e).1
    unfold move
    rw [if_neg (by omega), if_neg (by omega)]
    exact q, rfl⟩
  inj := move_inj (by omega) R.inj
  new := fun k b h => by
    rcases move_some h with ⟨_, e⟩ | ⟨_, _, e⟩
    · exact R.new _ b e
    · exact R.new _ b e
end

/-! ### readings whose frame is open -/
def dead : WX := fun _ _ _ _ => False
def tFx (Z : Wd) (f : EF Z.T) : TE := fun σ H Q => ∃ C : Fx Z, C.W = dead ∧ tF C f σ H Q
def tTx (Z : Wd) (f : EF Z.T) : TT := fun σ H Q => ∃ C : Fx Z, C.W = dead ∧ tT C f σ H Q
def tGx (Z : Wd) (S : List Nat) (g : GF) : TG := fun v σ H Q => ∃ C : Fx Z, C.W = dead ∧ tG C S g v σ H Q
section
variable {Z : Wd} {X : Cx} {e : Expr}
theorem ex_F {f : EF Z.T} (h : ∀ C : Fx Z, C.W = dead → PE X e (tF C f)) : PE X e (tFx Z f) := ⟨fun pins s σ H Q I ⟨C, w, q⟩ => (h C w).run pins s σ H Q I q⟩
theorem ex_T {f : EF Z.T} (h : ∀ C : Fx Z, C.W = dead → PT X e (tT C f)) : PT X e (tTx Z f) := ⟨fun pins s σ H Q I ⟨C, w, q⟩ => (h C w).run pins s σ H Q I q⟩
theorem ex_G {S : List Nat} {g : GF} (h : ∀ C : Fx Z, C.W = dead → PG X e (tG C S g)) : PG X e (tGx Z S g) := ⟨fun pins s σ H v u Q I r ⟨C, w, q⟩ => (h C w).run pins s σ H v u Q I r q⟩
def yesF {T : Type} : EF T := conF (.bl true)
theorem ex_yes : PTs X [] (tTx Z yesF) := ⟨fun pins s σ H Q I ⟨C, w, q⟩ => pts_nil.run pins s σ H Q I (con_tT q)⟩
theorem ex_one {f : EF Z.T} (h : ∀ C : Fx Z, C.W = dead → PT X e (tT C f)) : PTs X [e] (tTx Z f) := pts_one (ex_T h)
end

/-! ### comprehensions -/
def unown : Sl → Sl
  | .o _ => .no
  | .x => .no
  | s => s
/-- what a block sees: neither its own names nor own objects -/
def hideFrom (vs : List Nat) : Nat → List Sl → List Sl
  | _, [] => []
  | i, s :: r => (if i ∈ vs then .no else unown s) :: hideFrom vs (i + 1) r
theorem hideFrom_get {vs : List Nat} : ∀ {τ : List Sl} {k i : Nat}, (hideFrom vs k τ)[i]? = (τ[i]?).map fun s => if k + i ∈ vs then .no else unown s
  | [], _, _ => by simp [hideFrom]
  | s :: r, k, 0 => by simp [hideFrom]
  | s :: r, k, i + 1 => by
    simp only [hideFrom, List.getElem?_cons_succ]
    rw [hideFrom_get (τ := r)]
    have : k + 1 + i = k + (i + 1) := by omega
    rw [this]
theorem hideFrom_len {vs : List Nat} : ∀ {τ : List Sl} {k : Nat}, (hideFrom vs k τ).length = τ.length
  | [], _ => rfl
  | s :: r, k => by simp only [hideFrom, List.length_cons, hideFrom_len (τ := r)]
def shareAll : List Nat → List Sl → List Sl
  | [], τ => τ
  | i :: is, τ => shareAll is (match τ[i]? with
    | some (.o d) => τ.set i (.v d)
    | _ => τ)
def lcL {T : Type} (g : GF) (c e : EF T) (τ0 : List Sl) : List D → T → Option (List D × T)
  | [], t => some ([], t)
  | d :: ds, t => match g d τ0 with
    | none => none
    | some τ1 => match c (τ1, t) with
      | some (.ok r, s2) => match peek s2.1 (hold r) with
        | some (.bl true) => match e s2 with
          | some (.ok r3, s3) => match give s3.1 r3 with
            | some (dv, _) => match lcL g c e τ0 ds s3.2 with
              | some (rest, t') => some (dv :: rest, t')
              | none => none
            | none => none
          | _ => none
        | some (.bl false) => lcL g c e τ0 ds s2.2
        | _ => none
      | _ => none
def lcF {T : Type} (sh vs : List Nat) (it : IF T) (g : GF) (c e : EF T) : EF T := fun s => match it s with
  | none => none
  | some (.ex k fs, s1) => some (.ex k fs, s1)
  | some (.ok ds, s1) => if ds.length ≤ LEN then match lcL g c e (hideFrom vs 0 (shareAll sh s1.1)) ds s1.2 with
      | none => none
      | some (out, t) => some (.ok (.f (.lst out)), (shareAll sh s1.1, t))
    else none
section
variable {Z : Wd} {C : Fx Z} {X : Cx} {ow ow1 : Nat → Option Addr} {τ : List Sl} {t : Z.T} {σ : L2.St} {H H1 H' : Hp}
theorem Rel.shareAll : ∀ {sh : List Nat} {ow : Nat → Option Addr} {τ : List Sl}, C.Rel ow τ t σ H → ow 0 = none → ∃ ow', C.Rel ow' (FD.shareAll sh τ) t σ H ∧ ow' 0 = none ∧ Ext (C.Hid ow) H (C.Hid ow') H
  | [], ow, _, R, z => ⟨ow, R, z, .refl⟩
  | i :: is, ow, τ, R, z => by
    unfold FD.shareAll
    split
    · rename_i d p
      obtain ⟨ow', R', z', x⟩ := Rel.shareAll (sh := is) (R.share p) (drop_zero z)
      exact ⟨ow', R', z', ext_drop.trans x⟩
    · exact Rel.shareAll R z
theorem shareAll_len : ∀ {sh : List Nat} {τ : List Sl}, (FD.shareAll sh τ).length = τ.length
  | [], _ => rfl
  | i :: is, τ => by
    unfold FD.shareAll
    rw [shareAll_len (sh := is)]
    split
    · rw [List.length_set]
    · rfl
theorem wipe_off {S vs : List Nat} {σ σ' : L2.St} (h : Off S (wipe σ vs) σ') (k : ∀ i ∈ S, i ∈ vs) : wipe σ' vs = wipe σ vs := by
  have get : ∀ (vs : List Nat) (σ : L2.St) (i : Nat), (wipe σ vs)[i]? = if i ∈ vs then (σ[i]?).map (fun _ => none) else σ[i]? := by
    intro vs
    induction vs with
    | nil => intro σ i; simp [wipe]
    | cons v vs ih =>
      intro σ i
      unfold wipe
      by_cases e : i = v
      · subst e
        rw [if_pos (by simp)]
        by_cases hl : i < (wipe σ vs).length
        · rw [List.getElem?_set_self hl]
          rw [wipe_length] at hl
          rw [List.getElem?_eq_getElem hl]
          rfl
        · rw [List.getElem?_eq_none (by simpa using hl)]
          rw [wipe_length] at hl
          rw [List.getElem?_eq_none (by omega)]
          rfl
      · rw [List.getElem?_set_ne (Ne.symm e), ih]
        by_cases m : i ∈ vs
        · rw [if_pos m, if_pos (by simp [m])]
        · rw [if_neg m, if_neg (by simp [m, e])]
  apply List.ext_getElem?
  intro i
  rw [get, get]
  have hl : σ'.length = σ.length := by
    have := h.1
    rw [wipe_length] at this
    exact this
  by_cases m : i ∈ vs
  · rw [if_pos m, if_pos m]
    by_cases q : i < σ.length
    · rw [List.getElem?_eq_getElem q, List.getElem?_eq_getElem (by omega)]
      rfl
    · rw [List.getElem?_eq_none (by omega), List.getElem?_eq_none (by omega)]
  · rw [if_neg m, if_neg m, h.2 i (fun z => m (k i z)), get, if_neg m]
/-- the frame of a block: all that is hidden or own is the callers' -/
def blkFx {Z : Wd} (O : Addr → Prop) (H : Hp) : Fx Z := ⟨O, H, dead, noEv⟩
theorem Rel.block {vs : List Nat} (R : C.Rel ow τ t σ H) : (blkFx (Z := Z) (C.Hid ow) H).Rel (fun _ => none) (hideFrom vs 0 τ) t (wipe σ vs) H where
  on := R.on
  hid := fun a h => .inl (R.hid a h)
  hidT := fun a h => R.track h
  grow := fun a o e _ => e
  len := by rw [hideFrom_len, wipe_length]; exact R.len
  slot := fun i s e => by
    rw [hideFrom_get, Option.map_eq_some_iff] at e
    obtain ⟨s0, e0, e⟩ := e
    rw [Nat.zero_add] at e
    split at e
    · subst e
      trivial
    · rename_i m
      have q := R.slot i s0 e0
      cases s0 with
      | no => subst e; trivial
      | x => subst e; trivial
      | o d => subst e; trivial
      | v d =>
        subst e
        obtain ⟨v, e1, q⟩ := q
        refine ⟨v, ?_, q.mono fun a o h n => ⟨h, fun z => n (z.elim id fun ⟨_, z⟩ => by cases z)⟩⟩
        have get : ∀ (vs : List Nat), i ∉ vs → (wipe σ vs)[i]? = σ[i]? := by
          intro vs
          induction vs with
          | nil => intro _; rfl
          | cons v vs ih =>
            intro h
            simp only [List.mem_cons, not_or] at h
            unfold wipe
            rw [List.getElem?_set_ne (Ne.symm h.1)]
            exact ih h.2
        rw [get vs m]
        exact e1
  inj := fun _ _ _ e => by cases e
  new := fun _ _ e => by cases e
theorem hid_blk {O : Addr → Prop} {H : Hp} {a : Addr} : (blkFx (Z := Z) O H).Hid (fun _ => none) a ↔ O a := Iff.intro (fun h => h.elim id (fun ⟨_, z⟩ => nomatch z)) (fun h => .inl h)
/-- behind a block's turn: the outer frame -/
theorem Rel.behind {ow2 : Nat → Option Addr} {τ2 : List Sl} {t2 : Z.T} {σ2 : L2.St} {H2 : Hp} (R : C.Rel ow τ t σ H) (R2 : (blkFx (Z := Z) (C.Hid ow) H).Rel ow2 τ2 t2 σ2 H2) : C.Rel ow τ t2 σ H2 where
  on := R2.on
  hid := R.hid
  hidT := R.hidT
  grow := fun a o e n => R2.grow a o (R.grow a o e n) n
  len := R.len
  slot := fun i s e => (R.slot i s e).ext ⟨fun a o e n => R2.grow a o e fun z => n (.inl (R.hid a z)), fun _ h => .inl h⟩ fun a h => ⟨h, by
    obtain ⟨_, o, e1, _⟩ := R.new _ a h
    exact (R2.grow a o e1 fun z => R.own_ne h (R.hid a z)).trans e1.symm⟩
  inj := R.inj
  new := fun i a h => by
    obtain ⟨h1, o, e1, n⟩ := R.new i a h
    exact ⟨h1, o, R2.grow a o e1 fun z => R.own_ne h (R.hid a z), n⟩
theorem ext_behind {ow2 : Nat → Option Addr} {τ2 : List Sl} {t2 : Z.T} {σ2 : L2.St} {H2 : Hp} (R : C.Rel ow τ t σ H) (R2 : (blkFx (Z := Z) (C.Hid ow) H).Rel ow2 τ2 t2 σ2 H2) : Ext (C.Hid ow) H (C.Hid ow) H2 :=
  ⟨fun a o e n => R2.grow a o e fun z => n (.inl (R.hid a z)), fun _ h => .inl h⟩
theorem line_len {n : Nat} (h : n < LEN) : n < sizeLine := Nat.lt_of_lt_of_le h (by decide)
theorem tF_lc {S sh vs : List Nat} {it : IF Z.T} {g : GF} {c e : EF Z.T} {Q : VK} (hS : ∀ i ∈ S, i ∈ vs) (h : tF C (lcF sh vs it g c e) σ H Q) : tLc (tI C it) (tGx Z S g) (tTx Z c) (tFx Z e) vs σ H Q := by
  obtain ⟨ow, τ, t, o, s', R, z, e, k⟩ := h
  unfold lcF at e
  cases q : it (τ, t) with
  | none => rw [q] at e; cases e
  | some w =>
    obtain ⟨o1, s1⟩ := w
    rw [q] at e
    refine ⟨ow, τ, t, o1, s1, R, z, q, ?_⟩
    cases o1 with
    | ex c fs =>
      cases e
      exact k
    | ok ds =>
      intro ow0 J H0 R0 z0 x0 w0
      simp only at e
      split at e
      · rename_i hlen
        split at e
        · cases e
        · rename_i out tout p
          cases e
          obtain ⟨ow1, R1, z1, x1⟩ := R0.shareAll (sh := sh) z0
          have w1 := w0.ext x1
          have x01 := x0.trans x1
          intro Dl hD
          have hK : (FD.shareAll sh s1.1).length < s1.1.length + 1 := by rw [shareAll_len]; omega
          obtain ⟨G, Y, wk, hG, hY⟩ := w1
          refine lc_it wk (fun i H2 => ∃ t2 ds2 acc dacc, C.Rel (put ow1 (s1.1.length + 1) Dl) (FD.shareAll sh s1.1) t2 σ H2 ∧ Ext (C.Hid ow1) H0 (C.Hid (put ow1 (s1.1.length + 1) Dl)) H2 ∧ H2 Dl = some (.lst acc) ∧
            DenA Z (C.Hid (put ow1 (s1.1.length + 1) Dl)) H2 acc dacc ∧ dacc.length ≤ i ∧ lcL g c e (hideFrom vs 0 (FD.shareAll sh s1.1)) (ds.drop i) t2 = some (ds2, tout) ∧ dacc ++ ds2 = out) ?_ ?_ ?_ ?_
          · exact ⟨s1.2, out, [], [], R1.park hK hD (fun _ q => nomatch q), ext_put hD, upd_same, .nil, Nat.le_refl _, p, rfl⟩
          · rintro i H2 hi ⟨t2, ds2, acc, dacc, R2, x2, _⟩
            exact hG _ _ x2
          · rintro i x H2 H3 hi ⟨t2, ds2, acc, dacc, R2, x2, hacc, dn, hl, e2, eo⟩ y
            obtain ⟨d, hd, gr, dnx⟩ := hY i H2 x H3 _ hi x2 (fun p hp => R2.nohid hp) y
            have hdr : ds.drop i = d :: ds.drop (i + 1) := by
              rw [List.drop_eq_getElem_cons hi]
              have : ds[i] = d := by
                have := List.getElem?_eq_getElem hi
                rw [hd] at this
                exact (Option.some.inj this).symm
              rw [this]
            rw [hdr] at e2
            unfold lcL at e2
            split at e2
            · cases e2
            · rename_i τ1 p1
              have R3 := R2.grown gr
              have x23 : Ext (C.Hid (put ow1 (s1.1.length + 1) Dl)) H2 (C.Hid (put ow1 (s1.1.length + 1) Dl)) H3 := gr.ext
              have B := R3.block (vs := vs)
              refine ⟨blkFx (C.Hid (put ow1 (s1.1.length + 1) Dl)) H3, rfl, fun _ => none, _, t2, d, τ1, B, rfl, dnx.mono fun a o h n => ⟨h, fun z => n (hid_blk.mp z)⟩, p1, fun ow4 σ4 R4 z4 x4 f4 => ⟨wipe_off f4 hS, ?_⟩⟩
              split at e2
              · rename_i r s2 p2
                -- the heap behind the test or the element: the outer frame
                have own : put ow1 (s1.1.length + 1) Dl (s1.1.length + 1) = some Dl := put_same
                have keepD : ∀ {ow5 : Nat → Option Addr} {τ5 : List Sl} {t5 : Z.T} {σ5 : L2.St} {H5 : Hp}, (blkFx (Z := Z) (C.Hid (put ow1 (s1.1.length + 1) Dl)) H3).Rel ow5 τ5 t5 σ5 H5 → H5 Dl = some (.lst acc) := fun R5 => R5.grow Dl _ (gr _ _ hacc) fun z => R3.own_ne own (R3.hid _ z)
                split at e2
                · rename_i p3
                  refine ⟨blkFx (C.Hid (put ow1 (s1.1.length + 1) Dl)) H3, rfl, ow4, τ1, t2, R4, z4, _, _, p2, true, p3, fun ow5 H5 R5 z5 x5 => ?_⟩
                  dsimp only
                  rw [if_pos rfl]
                  split at e2
                  · rename_i r3 s3 p4
                    split at e2
                    · rename_i dv τv p5
                      split at e2
                      · rename_i rest tr p6
                        cases e2
                        refine ⟨blkFx (C.Hid (put ow1 (s1.1.length + 1) Dl)) H3, rfl, ow5, s2.1, s2.2, _, s3, R5, z5, p4, fun ow6 v H6 R6 r6 x6 => ?_⟩
                        obtain ⟨ow7, R7, z7, d7, x7⟩ := r6.give R6 p5
                        refine ⟨acc, keepD R7, ?_, ?_⟩
                        · have h1 := dn.len
                          refine line_len ?_
                          omega
                        · have RB := R3.behind R7
                          have xB := ext_behind R3 R7
                          have dv' : Den Z (C.Hid (put ow1 (s1.1.length + 1) Dl)) H6 v dv := d7.mono fun a o h n => ⟨h, fun z => n (.inl z)⟩
                          have u : Ext (C.Hid (put ow1 (s1.1.length + 1) Dl)) H6 (C.Hid (put ow1 (s1.1.length + 1) Dl)) (upd H6 Dl (.lst (acc ++ [v]))) := ext_upd (.inr ⟨_, own⟩)
                          refine ⟨s3.2, rest, acc ++ [v], dacc ++ [dv], RB.mutK own hK (fun _ q => nomatch q) (keepD R7) (fun _ q => nomatch q), ((x2.trans x23).trans xB).trans u, upd_same, (((dn.ext x23).ext xB).app (.one dv')).ext u, ?_, p6, ?_⟩
                          · rw [List.length_append]
                            simp only [List.length_cons, List.length_nil]
                            omega
                          · rw [← eo, List.append_assoc]
                            rfl
                      · cases e2
                    · cases e2
                  · cases e2
                · rename_i p3
                  refine ⟨blkFx (C.Hid (put ow1 (s1.1.length + 1) Dl)) H3, rfl, ow4, τ1, t2, R4, z4, _, _, p2, false, p3, fun ow5 H5 R5 z5 x5 => ?_⟩
                  dsimp only
                  rw [if_neg (by decide)]
                  have RB := R3.behind R5
                  have xB := ext_behind R3 R5
                  exact ⟨s2.2, ds2, acc, dacc, RB, (x2.trans x23).trans xB, keepD R5, (dn.ext x23).ext xB, by omega, e2, eo⟩
                · cases e2
              · cases e2
          · rintro H2 ⟨t2, ds2, acc, dacc, R2, x2, hacc, dn, hl, e2, eo⟩
            rw [List.drop_length] at e2
            cases e2
            rw [List.append_nil] at eo
            subst eo
            have own : put ow1 (s1.1.length + 1) Dl (s1.1.length + 1) = some Dl := put_same
            refine k (move (put ow1 (s1.1.length + 1) Dl) (s1.1.length + 1) 0) (.ref Dl) H2 (R2.unpark hK) ⟨Dl, .lst acc, ?_, rfl, hacc, (Cont.lst dn).ext ext_move⟩ ((x01.trans x2).trans ext_move)
            unfold move
            rw [if_pos rfl]
            exact own
      · cases e
theorem ev_lc {elt tg iter : Expr} {ifs : List Expr} {scope : Scope} {own : List (Str × Nat)} {pos : Pos} {S sh : List Nat} {it : IF Z.T} {g : GF} {c e : EF Z.T} (hc : X.calm = true) (hN : X.N.Nodup) (hi : PI X tg iter (tI C it)) (ok : BlkOk X.N X.env.scope scope own)
    (hg : ∀ (C : Fx Z), C.W = dead → ∀ (s : Shared) (H : Hp) (A : Addr) (cl : List (Str × Addr)) (fp : List Addr), PG (X.blk s H scope (compEnvC scope cl A X.env) fp) tg (tG C S g))
    (ht : ∀ (s : Shared) (H : Hp) (A : Addr) (cl : List (Str × Addr)) (fp : List Addr), PTs (X.blk s H scope (compEnvC scope cl A X.env) fp) ifs (tTx Z c))
    (he : ∀ (C : Fx Z), C.W = dead → ∀ (s : Shared) (H : Hp) (A : Addr) (cl : List (Str × Addr)) (fp : List Addr), PE (X.blk s H scope (compEnvC scope cl A X.env) fp) elt (tF C e))
    (hS : ∀ i ∈ S, i ∈ own.map (·.2) := by decide) (hs : ∀ x, foldedSetIterable iter X.env x = pure x := by intro _; rfl) : PE X (.ListComp elt [⟨tg, iter, ifs, 0⟩] scope pos) (tF C (lcF sh (own.map (·.2)) it g c e)) :=
  ⟨fun pins s σ H Q I h => (pe_lc hc hN hi ok (fun s H A cl fp => ex_G fun C w => hg C w s H A cl fp) ht (fun s H A cl fp => ex_F fun C w => he C w s H A cl fp) hs).run pins s σ H Q I (tF_lc hS h)⟩
end
end FD

/-! F9: what a for and a comprehension walk: lists, tuples, ranges, zip. -/
namespace FD
open PySem PySem.Spec PyProof.Rows L2

def itemsD : D → Option (List D)
  | .lst ds => some ds
  | .tup ds => some ds
  | _ => none
/-- the items of what f gives -/
def seqI {T : Type} (f : EF T) : IF T := fun s => match f s with
  | none => none
  | some (.ex c fs, s1) => some (.ex c fs, s1)
  | some (.ok r, s1) => match give s1.1 r with
    | none => none
    | some (d, τ) => match itemsD d with
      | none => none
      | some ds => some (.ok ds, (τ, s1.2))
/-- what is walked, by the arguments -/
def callI {T : Type} (op : List D → Option (List D)) (g : AF T) : IF T := fun s => match g s with
  | none => none
  | some (.ex c fs, s1) => some (.ex c fs, s1)
  | some (.ok rs, s1) => match giveAll s1.1 rs with
    | none => none
    | some (ds, τ) => match op ds with
      | none => none
      | some out => some (.ok out, (τ, s1.2))
section
variable {Z : Wd} {C : Fx Z} {X : Cx} {tg e e2 : Expr} {σ : L2.St} {H : Hp} {R : It → Hp → Prop} {pos p : Pos}
/-- where one comes to with the items -/
theorem seqI_of {f : EF Z.T} (h : tI C (seqI f) σ H R) : tF C f σ H fun v H1 => ∃ O ds d, itemsD d = some ds ∧ Den Z O H1 v d ∧ ∀ J, Walks Z O H1 J ds → R J H1 := by
  obtain ⟨ow, τ, t, o, s', R0, z, e, k⟩ := h
  unfold seqI at e
  cases q : f (τ, t) with
  | none => rw [q] at e; cases e
  | some w =>
    obtain ⟨o1, s1⟩ := w
    rw [q] at e
    refine ⟨ow, τ, t, o1, s1, R0, z, q, ?_⟩
    cases o1 with
    | ex c fs => cases e; exact k
    | ok r =>
      intro ow1 v H1 R1 r1 x1
      simp only at e
      split at e
      · cases e
      · rename_i d τ2 p1
        split at e
        · cases e
        · rename_i ds p2
          cases e
          obtain ⟨ow2, R2, z2, d2, x2⟩ := r1.give R1 p1
          exact ⟨_, ds, d, p2, d2, fun J w => k ow2 J H1 R2 z2 (x1.trans x2) w⟩
theorem callI_of {op : List D → Option (List D)} {g : AF Z.T} (h : tI C (callI op g) σ H R) : tA C g σ H fun vs H1 => ∃ O ds out, op ds = some out ∧ DenA Z O H1 vs ds ∧ ∀ J, Walks Z O H1 J out → R J H1 := by
  obtain ⟨ow, τ, t, o, s', R0, z, e, k⟩ := h
  unfold callI at e
  cases q : g (τ, t) with
  | none => rw [q] at e; cases e
  | some w =>
    obtain ⟨o1, s1⟩ := w
    rw [q] at e
    refine ⟨ow, τ, t, R0, z, o1, s1, q, ?_⟩
    cases o1 with
    | ex c fs => cases e; exact k
    | ok r =>
      intro ow1 v H1 R1 z1 r1 x1
      simp only at e
      split at e
      · cases e
      · rename_i ds τ2 p1
        split at e
        · cases e
        · rename_i out p2
          cases e
          obtain ⟨ow2, R2, z2, d2, x2⟩ := r1.give R1 z1 p1
          exact ⟨_, ds, out, p2, d2, fun J w => k ow2 J H1 R2 z2 (x1.trans x2) w⟩
theorem walks_list {K : PySem.W.Frag} {O : Addr → Prop} {a : Addr} {xs : List V} {ds : List D} (h : H a = some (.lst xs)) (n : ¬ O a) (c : DenA Z O H xs ds) : Walks Z O H (Itl K a) ds := by
  refine ⟨_, _, by rw [← c.len]; exact walk_list (xs := xs), fun O' H' x => SqL.of (x.kept a _ h n), fun i H1 v H2 O1 hi x _ y => ?_⟩
  obtain ⟨rfl, y⟩ := y
  obtain ⟨d, e, dn⟩ := c.get y
  exact ⟨d, e, Grow.refl, dn.ext x⟩
theorem walks_tup {K : PySem.W.Frag} {O : Addr → Prop} {a : Addr} {xs : List V} {ds : List D} (h : H a = some (.tup xs)) (n : ¬ O a) (c : DenA Z O H xs ds) : Walks Z O H (Itt K a) ds := by
  refine ⟨_, _, by rw [← c.len]; exact walk_tup (xs := xs), fun O' H' x => SqT.of (x.kept a _ h n), fun i H1 v H2 O1 hi x _ y => ?_⟩
  obtain ⟨rfl, y⟩ := y
  obtain ⟨d, e, dn⟩ := c.get y
  exact ⟨d, e, Grow.refl, dn.ext x⟩
/-- a list or a tuple walked -/
def iSeq (K : PySem.W.Frag) (tl : TE) : TI := fun σ H R => tl σ H fun x H1 => ∃ a, x = .ref a ∧ (((∃ xs, SqL K H1 a xs) ∧ R (Itl K a) H1) ∨ ((∃ xs, SqT K H1 a xs) ∧ R (Itt K a) H1))
theorem pi_seq {l : Expr} {tl : TE} (hl : PE X l tl) : PI X tg l (iSeq X.K tl) := by
  refine ⟨fun pins s σ H R I h => ?_⟩
  refine thn (hl.run pins s σ H _ I h) fun v s1 ⟨x, H1, I1, r1, q1⟩ => ?_
  obtain ⟨a, e, q⟩ := q1
  subst e
  cases r1
  have fresh : ∀ b ∈ [s1.heap.objs.size], FpOk X pins H1 b := fun b hb => by
    have e : b = s1.heap.objs.size := by simpa using hb
    subst e
    exact I1.fpOk (Nat.le_refl _) (I1.hok.fresh (Nat.le_refl _))
  rcases q with ⟨⟨xs, hq⟩, q⟩ | ⟨⟨xs, hq⟩, q⟩
  · obtain ⟨its, rv, p, hz⟩ := I1.list hq
    refine wpAny_pyIter_list p.isList ?_
    exact ⟨s1.heap.objs.size, [s1.heap.objs.size], _, _, H1, rfl, I1.kept (t' := s1.toks) fun b o e => Heap.get?_push_of_some _ e, turn_list a _, ⟨_, Heap.get?_push_size _ rfl, rfl, rfl⟩, fresh, q⟩
  · obtain ⟨its, rv, p, hz⟩ := I1.tuple hq
    refine wpAny_pyIter_tuple (show s1.heap.IsTuple a its.toArray from p) ?_
    exact ⟨s1.heap.objs.size, [s1.heap.objs.size], _, _, H1, rfl, I1.kept (t' := s1.toks) fun b o e => Heap.get?_push_of_some _ e, turn_tuple a _, ⟨_, Heap.get?_push_size _ rfl, rfl, rfl⟩, fresh, q⟩
theorem den_items {O : Addr → Prop} {v : V} {d : D} {ds : List D} (h : Den Z O H v d) (e : itemsD d = some ds) : ∃ a xs, v = .ref a ∧ ¬ O a ∧ DenA Z O H xs ds ∧ (H a = some (.lst xs) ∨ H a = some (.tup xs)) := by
  unfold itemsD at e
  split at e
  · cases e
    cases h with
    | ref e n c => cases c with
      | lst c => exact ⟨_, _, rfl, n, c, .inl e⟩
  · cases e
    cases h with
    | ref e n c => cases c with
      | tup c => exact ⟨_, _, rfl, n, c, .inr e⟩
  · cases e
theorem iv_seq {f : EF Z.T} (he : PE X e (tF C f)) : PI X tg e (tI C (seqI f)) := ⟨fun pins s σ H R I h => (pi_seq he).run pins s σ H R I (tF_mono (seqI_of h) fun v H1 ⟨O, ds, d, e, dn, k⟩ => by
  obtain ⟨a, xs, rfl, n, c, q⟩ := den_items dn e
  rcases q with q | q
  · exact ⟨a, rfl, .inl ⟨⟨xs, SqL.of q⟩, k _ (walks_list q n c)⟩⟩
  · exact ⟨a, rfl, .inr ⟨⟨xs, SqT.of q⟩, k _ (walks_tup q n c)⟩⟩)⟩

/-! ### ranges -/
def small (i : Int) : Bool := decide (-(2 ^ 60) ≤ i ∧ i ≤ 2 ^ 60)
def rngL (lo hi : Int) : List D := (List.range (hi - lo).toNat).map fun (k : Nat) => D.int (lo + (k : Int))
def rng1D : List D → Option (List D)
  | [.int j] => if small j = true then some (rngL 0 j) else none
  | _ => none
theorem walks_range {O : Addr → Prop} {lo hi : Int} : Walks Z O H (Itr lo (hi - lo).toNat) (rngL lo hi) := by
  refine ⟨_, _, by rw [show (rngL lo hi).length = (hi - lo).toNat by simp [rngL]]; exact walk_range, fun _ _ _ => trivial, fun i H1 v H2 O1 hi x _ y => ?_⟩
  obtain ⟨rfl, rfl⟩ := y
  refine ⟨.int (lo + (i : Int)), ?_, Grow.refl, .int _⟩
  have : i < (rngL lo _).length := hi
  simp only [rngL, List.length_map, List.length_range] at this
  simp only [rngL, List.getElem?_map, List.getElem?_range this, Option.map_some]
theorem den_int {O : Addr → Prop} {v : V} {i : Int} (h : Den Z O H v (.int i)) : v = .int i := (Shows.den h).int
theorem iv_range1 {g : AF Z.T} (hg : Gl X "range") (hm : X.mg "range" = none) (ha : PA X [e] (tA C g)) (hs : starEach [e] X.env = [(false, eval e X.env)] := by rfl) : PI X tg (.Call (.Name "range" p) [e] [] pos) (tI C (callI rng1D g)) :=
  ⟨fun pins s σ H R I h => (pi_range1 hg hm ha hs).run pins s σ H R I (tA_mono (callI_of h) fun vs H1 ⟨O, ds, out, e, dn, k⟩ => by
    unfold rng1D at e
    split at e
    · split at e
      · rename_i j hj
        cases e
        cases dn with
        | cons d r =>
          cases r
          cases den_int d
          unfold small at hj
          have hj := of_decide_eq_true hj
          refine ⟨j, rfl, by omega, by omega, ?_⟩
          have w := k (Itr 0 (j - 0).toNat) walks_range
          rw [Int.sub_zero] at w
          exact w
      · cases e
    · cases e)⟩
/-! ### zip -/
def pairD : List D → List D → List D
  | x :: xs, y :: ys => .tup [x, y] :: pairD xs ys
  | _, _ => []
theorem pairD_len : ∀ {xs ys : List D}, (pairD xs ys).length = min xs.length ys.length
  | [], ys => by simp [pairD]
  | _ :: _, [] => by simp [pairD]
  | _ :: xs, _ :: ys => by
    simp only [pairD, List.length_cons, pairD_len (xs := xs) (ys := ys)]
    omega
theorem pairD_get : ∀ {xs ys : List D} {i : Nat} {x y : D}, xs[i]? = some x → ys[i]? = some y → (pairD xs ys)[i]? = some (.tup [x, y])
  | [], _, _, _, _, h, _ => by cases h
  | _ :: _, [], _, _, _, _, h => by cases h
  | _ :: xs, _ :: ys, 0, _, _, h, k => by
    cases h
    cases k
    rfl
  | _ :: xs, _ :: ys, i + 1, x, y, h, k => pairD_get (xs := xs) (ys := ys) (i := i) h k
/-- zip of two lists, or of two tuples -/
def zipD : List D → Option (List D)
  | [.lst xs, .lst ys] => some (pairD xs ys)
  | [.tup xs, .tup ys] => some (pairD xs ys)
  | _ => none
theorem pair_new {O : Addr → Prop} {T : Addr} {x y : V} {dx dy : D} (hO : ∀ p, H p = none → ¬ O p) (hT : H T = none) (h1 : Den Z O H x dx) (h2 : Den Z O H y dy) : Grow H (upd H T (.tup [x, y])) ∧ Den Z O (upd H T (.tup [x, y])) (.ref T) (.tup [dx, dy]) :=
  Gets.tup (Z := Z) hO hT (.cons h1 (.cons h2 .nil))
theorem walk_zipT {K : PySem.W.Frag} {a b : Addr} {xs ys : List V} {n : Nat} (hn : n = min xs.length ys.length) : Walk (RZ.ItzT K a b) n (fun H => SqT K H a xs ∧ SqT K H b ys) (YPair (fun i => xs[i]?) (fun i => ys[i]?)) := by
  subst hn
  refine ⟨fun i _ hi q => ?_, fun _ q => ⟨xs, ys, q.1, q.2, by omega⟩, fun i H v H' _ q y => ?_⟩
  · have h1 : i < xs.length := by omega
    have h2 : i < ys.length := by omega
    exact ⟨xs, ys, xs[i], ys[i], q.1, q.2, by simp [h1], by simp [h2]⟩
  · obtain ⟨T, x, z, h1, h2, h3, h4, h5⟩ := y
    exact ⟨T, x, z, h1, h2, h3, h4 xs q.1, h5 ys q.2⟩
theorem walks_pair {O : Addr → Prop} {J : It} {xs ys : List V} {ds es : List D} {G : Hp → Prop} (w : Walk J (pairD ds es).length G (YPair (fun i => xs[i]?) (fun i => ys[i]?))) (hG : ∀ O' H', Ext O H O' H' → G H') (c1 : DenA Z O H xs ds) (c2 : DenA Z O H ys es) :
    Walks Z O H J (pairD ds es) := by
  refine ⟨G, _, w, hG, fun i H1 v H2 O1 hi x hO y => ?_⟩
  obtain ⟨T, x1, y1, rfl, hT, rfl, e1, e2⟩ := y
  obtain ⟨d1, f1, n1⟩ := c1.get e1
  obtain ⟨d2, f2, n2⟩ := c2.get e2
  obtain ⟨g, dn⟩ := pair_new hO hT (n1.ext x) (n2.ext x)
  exact ⟨_, pairD_get f1 f2, g, dn⟩
theorem iv_zip {tpos : Pos} {elts : List Expr} {kk : Nat} {g : AF Z.T} (hg : Gl X "zip") (hm : X.mg "zip" = none) (ha : PA X [e, e2] (tA C g))
    (hs : starEach [e, e2] X.env = (false, eval e X.env) :: starEach [e2] X.env := by rfl) (hpl : (backTo pos (starEach [e2] X.env)).any (·.1) = false := by rfl) :
    PI X (.Tuple elts kk tpos) (.Call (.Name "zip" p) [e, e2] [] pos) (tI C (callI zipD g)) :=
  ⟨fun pins s σ H R I h => (RZ.pi_zipA hg hm ha hs hpl).run pins s σ H R I (tA_mono (callI_of h) fun vs H1 ⟨O, ds, out, e, dn, k⟩ => by
    unfold zipD at e
    split at e
    · cases e
      cases dn with
      | cons d r =>
        cases r with
        | cons d' r =>
          cases r
          cases d with
          | ref e1 n1 c1 => cases c1 with
            | lst c1 => cases d' with
              | ref e2 n2 c2 => cases c2 with
                | lst c2 => exact ⟨_, _, _, _, rfl, .inl ⟨SqL.of e1, SqL.of e2, k _ (walks_pair (walk_zip (by rw [pairD_len, c1.len, c2.len])) (fun O' H' x => ⟨SqL.of (x.kept _ _ e1 n1), SqL.of (x.kept _ _ e2 n2)⟩) c1 c2)⟩⟩
    · cases e
      cases dn with
      | cons d r =>
        cases r with
        | cons d' r =>
          cases r
          cases d with
          | ref e1 n1 c1 => cases c1 with
            | tup c1 => cases d' with
              | ref e2 n2 c2 => cases c2 with
                | tup c2 => exact ⟨_, _, _, _, rfl, .inr ⟨SqT.of e1, SqT.of e2, k _ (walks_pair (walk_zipT (by rw [pairD_len, c1.len, c2.len])) (fun O' H' x => ⟨SqT.of (x.kept _ _ e1 n1), SqT.of (x.kept _ _ e2 n2)⟩) c1 c2)⟩⟩
    · cases e)⟩
end
end FD

/-! F10: defs by functions of data: what they promise, their calls, their bodies. -/
namespace FD
open PySem PySem.Spec PyProof.Rows L2

inductive FOut where
  | ok (d : D) (fr : Bool) | ex (c : Str) (fs : List (Str × D))
abbrev FF (T : Type) := List D → T → Option (FOut × T)
def GrowZ (Z : Wd) (H H' : Hp) : Prop := ∀ a o, H a = some o → ¬ Z.hid a → H' a = some o
def FinF (Z : Wd) (O : Addr → Prop) (H : Hp) (Q : VK) (E : XK) (t' : Z.T) : FOut → Prop
  | .ok d false => ∀ v H', Z.On t' H' → GrowZ Z H H' → Den Z O H' v d → Q v H'
  | .ok d true => ∀ a o H', Z.On t' H' → GrowZ Z H H' → H a = none → H' a = some o → (∀ xs, o ≠ .tup xs) → Cont Z (fun b => O b ∨ b = a) H' o d → Q (.ref a) H'
  | .ex c fs => ∀ d H', Z.On t' H' → GrowZ Z H H' → ExOk Z O H' d fs → E (.ref (Z.ca c)) d H'
/-- what a def promises that does on data what F does -/
def spF (Z : Wd) (n : Nat) (F : FF Z.T) : Sp := fun vs H Q E => vs.length = n ∧ ∃ O t ds o t', (∀ a, Z.hid a → O a) ∧ (∀ a, O a → ∃ o, H a = some o ∧ ∀ xs, o ≠ .tup xs) ∧ Z.On t H ∧ DenA Z O H vs ds ∧ F ds t = some (o, t') ∧ FinF Z O H Q E t' o

section
variable {Z : Wd} {C : Fx Z} {X : Cx} {ow : Nat → Option Addr} {τ : List Sl} {t t' : Z.T} {σ : L2.St} {H H' : Hp}
theorem ext_grow (R : C.Rel ow τ t σ H) (g : GrowZ Z H H') : Ext (C.Hid ow) H (C.Hid ow) H' := ⟨fun a o e n => g a o e fun z => n (.inl (R.hid a z)), fun _ h => .inl h⟩
theorem Rel.called (R : C.Rel ow τ t σ H) (on : Z.On t' H') (g : GrowZ Z H H') : C.Rel ow τ t' σ H' where
  on := on
  hid := R.hid
  hidT := R.hidT
  grow := fun a o e n => g a o (R.grow a o e n) n
  len := R.len
  slot := fun i s e => (R.slot i s e).ext (ext_grow R g) fun a h => ⟨h, by
    obtain ⟨_, o, e1, _⟩ := R.new _ a h
    exact (g a o e1 fun z => R.own_ne h (R.hid a z)).trans e1.symm⟩
  inj := R.inj
  new := fun i a h => by
    obtain ⟨h1, o, e1, n⟩ := R.new i a h
    exact ⟨h1, o, g a o e1 fun z => R.own_ne h (R.hid a z), n⟩
theorem Rel.fresh0 (R : C.Rel ow τ t σ H) {p : Addr} (h : H p = none) : C.H p = none := by
  cases z : C.H p with
  | none => rfl
  | some u =>
    by_cases g : Z.hid p
    · obtain ⟨u', e', _⟩ := Z.trk t H p R.on g
      rw [h] at e'
      cases e'
    · have := R.grow p u z g
      rw [h] at this
      cases this
theorem ext_adopt (R : C.Rel ow τ t σ H) (g : GrowZ Z H H') {a : Addr} (h : H a = none) {K : Nat} : Ext (C.Hid ow) H (C.Hid (put ow K a)) H' :=
  ⟨fun b o e n => g b o e fun z => n (.inl (R.hid b z)), fun b q => (hid_put q).imp id fun z => by rw [z]; exact h⟩
/-- a call hands back an object of its own -/
theorem Rel.adopt {a : Addr} {o : HO} (R : C.Rel ow τ t σ H) (on : Z.On t' H') (g : GrowZ Z H H') (h : H a = none) (e : H' a = some o) (n : ∀ xs, o ≠ .tup xs) : C.Rel (put ow 0 a) τ t' σ H' where
  on := on
  hid := R.hid
  hidT := R.hidT
  grow := fun b u q nb => g b u (R.grow b u q nb) nb
  len := R.len
  slot := fun i s q => (R.slot i s q).ext (ext_adopt R g h) fun b y => ⟨by rw [put_ne (by omega)]; exact y, by
    obtain ⟨_, u, e1, _⟩ := R.new _ b y
    exact (g b u e1 fun z => R.own_ne y (R.hid b z)).trans e1.symm⟩
  inj := fun i j b h1 h2 => by
    have old : ∀ i b, ow i = some b → b ≠ a := fun i b q z => by
      obtain ⟨_, u, e, _⟩ := R.new i b q
      rw [z, h] at e
      cases e
    rcases put_some h1 with ⟨e1, e2⟩ | ⟨_, e2⟩
    · rcases put_some h2 with ⟨e3, _⟩ | ⟨_, e4⟩
      · rw [e1, e3]
      · exact absurd e2 (old j b e4)
    · rcases put_some h2 with ⟨_, e3⟩ | ⟨_, e4⟩
      · exact absurd e3 (old i b e2)
      · exact R.inj i j b e2 e4
  new := fun i b q => by
    rcases put_some q with ⟨_, e1⟩ | ⟨_, e1⟩
    · subst e1
      exact ⟨R.fresh0 h, o, e, n⟩
    · obtain ⟨h1, u, e2, m⟩ := R.new i b e1
      exact ⟨h1, u, g b u e2 fun z => R.own_ne e1 (R.hid b z), m⟩

/-! ### calls -/
def ucallF {T : Type} (F : FF T) (g : AF T) : EF T := fun s => match g s with
  | none => none
  | some (.ex c fs, s1) => some (.ex c fs, s1)
  | some (.ok rs, s1) => match giveAll s1.1 rs with
    | none => none
    | some (ds, τ) => match F ds s1.2 with
      | none => none
      | some (.ok d fr, t) => some (.ok (resOf (d, fr)), (τ, t))
      | some (.ex c fs, t) => some (.ex c fs, (τ, t))
theorem ResOks.len : ∀ {vs : List V} {rs : List Res}, ResOks C σ ow τ H vs rs → vs.length = rs.length
  | _, _, .nil => rfl
  | _, _, .cons _ r => by rw [List.length_cons, List.length_cons, ResOks.len r]
/-- behind the arguments of a call -/
theorem ucall_of {F : FF Z.T} {g : AF Z.T} {Q : VK} {n : Nat} (hn : ∀ ds t o, F ds t = some o → ds.length = n) (h : tF C (ucallF F g) σ H Q) : tA C g σ H fun vs H1 => spF Z n F vs H1 Q fun c d H2 => C.W c d σ H2 := by
  obtain ⟨ow, τ, t, o, s', R, z, e, k⟩ := h
  unfold ucallF at e
  cases q : g (τ, t) with
  | none => rw [q] at e; cases e
  | some w =>
    obtain ⟨o1, s1⟩ := w
    rw [q] at e
    refine ⟨ow, τ, t, R, z, o1, s1, q, ?_⟩
    cases o1 with
    | ex c fs => cases e; exact k
    | ok rs =>
      intro ow1 vs H1 R1 z1 r1 x1
      simp only at e
      split at e
      · cases e
      · rename_i ds τ2 p1
        obtain ⟨ow2, R2, z2, d2, x2⟩ := r1.give R1 z1 p1
        have x12 := x1.trans x2
        split at e
        · cases e
        · rename_i d fr t2 p2
          cases e
          refine ⟨d2.len.trans (hn _ _ _ p2), _, s1.2, ds, _, t2, fun a h => .inl (R2.hid a h), fun a h => R2.track h, R2.on, d2, p2, ?_⟩
          cases fr with
          | false => exact fun v H2 on gr dn => k ow2 v H2 (R2.called on gr) ⟨z2, dn⟩ (x12.trans (ext_grow R2 gr))
          | true =>
            intro a o H2 on gr hn e2 nt c
            refine k (put ow2 0 a) (.ref a) H2 (R2.adopt on gr hn e2 nt) ⟨a, o, put_same, rfl, e2, c.mono fun b u hb m => ⟨hb, fun y => m (hid_put y)⟩⟩ (x12.trans (ext_adopt R2 gr hn))
        · rename_i c fs t2 p2
          cases e
          exact ⟨d2.len.trans (hn _ _ _ p2), _, s1.2, ds, _, t2, fun a h => .inl (R2.hid a h), fun a h => R2.track h, R2.on, d2, p2, fun d H2 on gr eo => k ow2 d H2 (R2.called on gr) z2 (x12.trans (ext_grow R2 gr)) eo⟩
theorem ev_call {F : FF Z.T} {k n : Nat} {f : Addr} {fd : FuncData} {ps : List Str} {x : Str} {p pos : Pos} {e : Expr} {es : List Expr} {g : AF Z.T} (G : FnOk X.prog X.w X.K X.mg X.base (L2.CX X.prog X.w) k f fd ps (spF Z n F)) (hn : ∀ ds t o, F ds t = some o → ds.length = n)
    (tk : Takes X C.W) (hr : Room k X.A) (hg : Gl X x) (hm : X.mg x = some (.ref f)) (hk : PySem.W.keepIn X.K (.ref f) = true) (hb : Binds X.K fd ps []) (ha : PA X (e :: es) (tA C g))
    (hdb : (x == ("__debug__" : Str)) = false := by decide) (he : starEach (e :: es) X.env = (false, eval e X.env) :: starEach es X.env := by rfl) (hpl : (backTo pos (starEach es X.env)).any (·.1) = false := by rfl) :
    PE X (.Call (.Name x p) (e :: es) [] pos) (tF C (ucallF F g)) :=
  ⟨fun pins s σ H Q I h => (pe_callSD G hr hg hm hk hb .nil (fun σ => passAt tk σ) ha hdb he hpl).run pins s σ H Q I (tA_mono (ucall_of hn h) fun vs H1 q => by rw [List.append_nil]; exact q)⟩
end

/-! ### bodies -/
def initS (N : Nat) (ds : List D) : List Sl := ds.map Sl.v ++ List.replicate (N - ds.length) .no
def runF {T : Type} (N n : Nat) (f : SF T) : FF T := fun ds t => if ds.length = n then match f (initS N ds, t) with
    | some (.nx, s) => some (.ok .non false, s.2)
    | some (.rt (.d d), s) => some (.ok d false, s.2)
    | some (.rt (.f d), s) => some (.ok d true, s.2)
    | some (.ex c fs, s) => some (.ex c fs, s.2)
    | _ => none
  else none
section
variable {P : Program} {w : World} {K : PySem.W.Frag} {mg : Str → Option Value} {base : Heap} {Z : Wd}
theorem DenA.slots {ev : Exv} {O : Addr → Prop} {H : Hp} {n : Nat} : ∀ {vs : List V} {ds : List D} {i : Nat} {s : Sl}, DenA Z O H vs ds → (ds.map Sl.v ++ List.replicate n .no)[i]? = some s → SlotOk Z ev O H (fun _ => none) (vs.map some ++ List.replicate n none) i s
  | _, _, i, s, .nil, e => by
    simp only [List.map_nil, List.nil_append] at e
    by_cases h : i < n
    · rw [List.getElem?_replicate, if_pos h] at e
      cases e
      trivial
    · rw [List.getElem?_replicate, if_neg h] at e
      cases e
  | _, _, 0, s, .cons d _, e => by
    cases e
    exact ⟨_, rfl, d⟩
  | v :: vs, d' :: ds, i + 1, s, .cons _ r, e => by
    have q := DenA.slots (ev := ev) (n := n) (i := i) (s := s) r (by simpa using e)
    cases s with
    | no => trivial
    | x => exact ⟨by simpa using q.1, q.2⟩
    | v d =>
      obtain ⟨v, e1, e2⟩ := q
      exact ⟨v, by simpa using e1, e2⟩
    | o d =>
      obtain ⟨a, o, e1, _⟩ := q
      cases e1
theorem fn_body {x qual : Str} {st : Stmt} {f : Addr} {fd : FuncData} {N ps : List Str} {k : Nat} {b : SF Z.T} {G : FF Z.T} (F : Fun K x qual st f fd) (S : FnScope N ps (defScope st)) (hps : ps.length ≤ N.length) (hG : ∀ ds t r, G ds t = some r → runF N.length ps.length b ds t = some r)
    (hbody : ∀ (cdv : Value) (A : Around) (outer : List Env) (s : Shared) (H : Hp) (E : XK) (C : Fx Z), Room k (A.deeper (envOfC qual (defScope st) s.heap.objs.size f cdv)) → Takes (cxOf (L2.CX P w) P w K mg base N qual (defScope st) f cdv A outer s H E) C.W →
      PSs (cxOf (L2.CX P w) P w K mg base N qual (defScope st) f cdv A outer s H E) (defBody st) (tS C b)) : FnOk P w K mg base (L2.CX P w) (k + 1) f fd ps (spF Z ps.length G) := by
  refine F.okX S (fun vs H Q E h => h.1) fun cdv A outer s H vs Q E hr hsp => ?_
  obtain ⟨hl, O, t, ds, o, t', h1, h2, on, dn, e, fin⟩ := hsp
  refine ⟨_, hbody cdv A outer s H E ⟨O, H, fun c d _ H' => E c d H', noEv⟩ hr (takes_of rfl rfl rfl rfl), ?_⟩
  have hdl : ds.length = ps.length := by rw [← dn.len]; exact hl
  have e2 := hG _ _ _ e
  unfold runF at e2
  rw [if_pos hdl] at e2
  have hnone : ∀ a, Hid O (fun _ => none) a ↔ O a := fun a => Iff.intro (fun h => h.elim id (fun ⟨_, z⟩ => nomatch z)) (fun h => .inl h)
  have R : FD.Rel Z noEv O H (fun _ => none) (initS N.length ds) t (start N vs) H := {
    on := on, hid := h1, hidT := h2, grow := fun _ _ e _ => e
    len := by
      unfold initS L2.start
      rw [List.length_append, List.length_append, List.length_map, List.length_map, List.length_replicate, List.length_replicate, dn.len]
    slot := fun i s q => by
      unfold initS at q
      unfold L2.start
      have dn' : DenA Z (Hid O fun _ => none) H vs ds := dn.mono fun a o h n => ⟨h, fun z => n ((hnone a).mp z)⟩
      have := DenA.slots (ev := noEv) (n := N.length - ds.length) dn' q
      rw [dn.len]
      exact this
    inj := fun _ _ _ z => nomatch z
    new := fun _ _ z => nomatch z }
  have back : ∀ {ow : Nat → Option Addr} {H' : Hp} {v : V} {d : D}, Den Z (Hid O ow) H' v d → Den Z O H' v d := fun h => h.mono fun a o e n => ⟨e, fun z => n (.inl z)⟩
  refine ⟨fun _ => none, initS N.length ds, t, R, rfl, ?_⟩
  split at e2
  · rename_i s1 p
    cases e2
    exact ⟨.nx, s1, p, fun ow' σ' H' R' z x => fin .non H' R'.on (fun a o e n => R'.grow a o e n) .non⟩
  · rename_i d s1 p
    cases e2
    exact ⟨_, s1, p, fun ow' σ' v H' R' r x => fin v H' R'.on (fun a o e n => R'.grow a o e n) (back r.2)⟩
  · rename_i d s1 p
    cases e2
    refine ⟨_, s1, p, fun ow' σ' v H' R' r x => ?_⟩
    obtain ⟨a, o, e1, rfl, e3, c⟩ := r
    obtain ⟨hn, u, e4, nt⟩ := R'.new _ a e1
    rw [e3] at e4
    cases e4
    exact fin a o H' R'.on (fun a o e n => R'.grow a o e n) hn e3 nt (c.mono fun b u e n => ⟨e, fun z => n (z.elim .inl fun z => .inr ⟨0, by rw [z]; exact e1⟩)⟩)
  · rename_i c fs s1 p
    cases e2
    refine ⟨_, s1, p, fun ow' σ' d H' R' z x eo => fin d H' R'.on (fun a o e n => R'.grow a o e n) ?_⟩
    cases d with
    | none => exact eo
    | some dd =>
      obtain ⟨vs, e5, n, q⟩ := eo
      exact ⟨vs, e5, fun z => n (.inl z), q.mono fun a o e n => ⟨e, fun z => n (.inl z)⟩⟩
  · cases e2
end
end FD

/-! F11: built-in functions of data, items, slices. -/
namespace FD
open PySem PySem.Spec PyProof.Rows L2
section
variable {Z : Wd} {X : Cx}
/-! ### items -/
def ixD : D → D → Option (D × Bool)
  | .lst ds, .int i => (atI ds i).map fun d => (d, false)
  | .tup ds, .int i => (atI ds i).map fun d => (d, false)
  | _, _ => none
theorem DenA.atI {O : Addr → Prop} {H : Hp} {xs : List V} {ds : List D} {i : Int} {d : D} (h : DenA Z O H xs ds) (e : L2.atI ds i = some d) : ∃ v, L2.atI xs i = some v ∧ Den Z O H v d := by
  unfold L2.atI at e ⊢
  rw [h.len]
  cases q : ixN ds.length i with
  | none => rw [q] at e; cases e
  | some j =>
    rw [q] at e
    exact h.get2 e
theorem ixR : IxR X (rD2 Z ixD) := by
  intro value slice pins s σ H x y v u Q I rx ry h
  obtain ⟨O, dx, dy, z, hO, sx, sy, e, q⟩ := h
  unfold ixD at e
  split at e
  · rename_i ds i
    cases sy.int
    obtain ⟨a, xs, rfl, h1, c1⟩ := sx.lst
    obtain ⟨d, e1, rfl⟩ := Option.map_eq_some_iff.mp e
    obtain ⟨w, e2, dw⟩ := c1.atI e1
    exact ix_seq value slice pins s σ H _ _ v u Q I rx ry (.inl ⟨a, xs, i, w, rfl, rfl, SqL.of h1, e2, q _ _ (.same dw)⟩)
  · rename_i ds i
    cases sy.int
    obtain ⟨a, xs, rfl, h1, c1, _⟩ := sx.tup
    obtain ⟨d, e1, rfl⟩ := Option.map_eq_some_iff.mp e
    obtain ⟨w, e2, dw⟩ := c1.atI e1
    exact ix_seq value slice pins s σ H _ _ v u Q I rx ry (.inr (.inl ⟨a, xs, i, w, rfl, rfl, SqT.of h1, e2, q _ _ (.same dw)⟩))
  · cases e

/-! ### len, abs, sum, min, max -/
def lenD : List D → Option (D × Bool)
  | [.lst ds] => some (.int ds.length, false)
  | [.tup ds] => some (.int ds.length, false)
  | _ => none
theorem cD_len : CallD Z X (.builtin "len") lenD := by
  intro pins s σ H xs us Q I r h
  obtain ⟨O, ds, z, hO, sh, e, q⟩ := h
  unfold lenD at e
  split at e
  · cases e
    cases sh with
    | cons sx sr =>
      cases sr
      obtain ⟨a, ys, rfl, h1, c1⟩ := sx.lst
      exact call_len_seq pins s σ H _ us Q I r ⟨a, ys, rfl, .inl (SqL.of h1), q _ _ (.same (by rw [c1.len]; exact .int _))⟩
  · cases e
    cases sh with
    | cons sx sr =>
      cases sr
      obtain ⟨a, ys, rfl, h1, c1, _⟩ := sx.tup
      exact call_len_seq pins s σ H _ us Q I r ⟨a, ys, rfl, .inr (SqT.of h1), q _ _ (.same (by rw [c1.len]; exact .int _))⟩
  · cases e
/-- the ints of data -/
def intsD : List D → Option (List Int)
  | [] => some []
  | .int i :: ds => (intsD ds).map (i :: ·)
  | _ => none
theorem intsD_map (ns : List Int) : intsD (ns.map D.int) = some ns := by
  induction ns with
  | nil => rfl
  | cons n r ih => simp only [List.map_cons, intsD, ih, Option.map_some]
theorem intsD_of : ∀ {ds : List D} {ns : List Int}, intsD ds = some ns → ds = ns.map D.int
  | [], _, e => by cases e; rfl
  | .int i :: ds, ns, e => by
    simp only [intsD] at e
    obtain ⟨r, e1, rfl⟩ := Option.map_eq_some_iff.mp e
    rw [intsD_of e1]
    rfl
  | .non :: _, _, e => by simp [intsD] at e
  | .bl _ :: _, _, e => by simp [intsD] at e
  | .str _ :: _, _, e => by simp [intsD] at e
  | .tup _ :: _, _, e => by simp [intsD] at e
  | .lst _ :: _, _, e => by simp [intsD] at e
  | .dct _ :: _, _, e => by simp [intsD] at e
  | .obj _ _ :: _, _, e => by simp [intsD] at e
  | .ty _ :: _, _, e => by simp [intsD] at e
  | .hnd _ :: _, _, e => by simp [intsD] at e
  | .fn _ :: _, _, e => by simp [intsD] at e
def sumLD : List D → Option (D × Bool)
  | [.lst ds] => (intsD ds).map fun ns => (.int ns.sum, false)
  | _ => none
theorem cD_sumL (hc : X.calm = true) : CallD Z X (.builtin "sum") sumLD := by
  intro pins s σ H xs us Q I r h
  obtain ⟨O, ds, z, hO, sh, e, q⟩ := h
  unfold sumLD at e
  split at e
  · obtain ⟨ns, e1, rfl⟩ := Option.map_eq_some_iff.mp e
    cases intsD_of e1
    cases sh with
    | cons sx sr =>
      cases sr
      obtain ⟨a, ys, rfl, h1, c1⟩ := sx.lst
      cases c1.ints
      exact cr_sum hc pins s σ H _ us Q I r ⟨a, ns, rfl, SqL.of h1, q _ _ (.same (.int _))⟩
  · cases e
def min2D : List D → Option (D × Bool)
  | [.int i, .int j] => some (.int (if j < i then j else i), false)
  | _ => none
theorem cD_min2 (hc : X.calm = true) : CallD Z X (.builtin "min") min2D := by
  intro pins s σ H xs us Q I r h
  obtain ⟨O, ds, z, hO, sh, e, q⟩ := h
  unfold min2D at e
  split at e
  · cases e
    cases sh with
    | cons sx sr => cases sr with
      | cons sy sr =>
        cases sr
        cases sx.int; cases sy.int
        exact call_min2 hc pins s σ H _ us Q I r ⟨_, _, rfl, q _ _ (.same (.int _))⟩
  · cases e
/-! ### list, tuple, int, all, any -/
def listD : List D → Option (D × Bool)
  | [.lst ds] => some (.lst ds, true)
  | [.tup ds] => some (.lst ds, true)
  | _ => none
theorem cD_list : CallD Z X (.type "list") listD := by
  intro pins s σ H xs us Q I r h
  obtain ⟨O, ds, z, hO, sh, e, q⟩ := h
  unfold listD at e
  split at e
  · cases e
    cases sh with
    | cons sx sr =>
      cases sr
      obtain ⟨a, ys, rfl, h1, c1⟩ := sx.lst
      exact call_list_of pins s σ H _ us Q I r ⟨a, ys, rfl, .inl (SqL.of h1), fun l hl => q _ _ (.lst hl c1)⟩
  · cases e
    cases sh with
    | cons sx sr =>
      cases sr
      obtain ⟨a, ys, rfl, h1, c1, _⟩ := sx.tup
      exact call_list_of pins s σ H _ us Q I r ⟨a, ys, rfl, .inr (SqT.of h1), fun l hl => q _ _ (.lst hl c1)⟩
  · cases e
def tupleD : List D → Option (D × Bool)
  | [.lst ds] => some (.tup ds, false)
  | [.tup ds] => some (.tup ds, false)
  | _ => none
theorem cD_tuple : CallD Z X (.type "tuple") tupleD := by
  intro pins s σ H xs us Q I r h
  obtain ⟨O, ds, z, hO, sh, e, q⟩ := h
  unfold tupleD at e
  split at e
  · cases e
    cases sh with
    | cons sx sr =>
      cases sr
      obtain ⟨a, ys, rfl, h1, c1⟩ := sx.lst
      exact call_tuple_of pins s σ H _ us Q I r ⟨a, ys, rfl, .inl ⟨SqL.of h1, fun l hl => q _ _ (.tup hO hl c1)⟩⟩
  · cases e
    cases sh with
    | cons sx sr =>
      cases sr
      obtain ⟨a, ys, rfl, h1, c1, n1⟩ := sx.tup
      exact call_tuple_of pins s σ H _ us Q I r ⟨a, ys, rfl, .inr ⟨SqT.of h1, q _ _ (.same (.ref h1 n1 (.tup c1)))⟩⟩
  · cases e
def intD : List D → Option (D × Bool)
  | [.int i] => some (.int i, false)
  | [.bl b] => some (.int (if b then 1 else 0), false)
  | _ => none
def blsD : List D → Option (List Bool)
  | [] => some []
  | .bl i :: ds => (blsD ds).map (i :: ·)
  | _ => none
theorem blsD_of : ∀ {O : Addr → Prop} {H : Hp} {xs : List V} {ds : List D} {bs : List Bool}, DenA Z O H xs ds → blsD ds = some bs → xs = bs.map V.bl
  | _, _, _, [], _, .nil, e => by cases e; rfl
  | O, H, v :: vs, d :: ds, bs, .cons h r, e => by
    cases d with
    | bl b =>
      simp only [blsD] at e
      obtain ⟨rs, e1, rfl⟩ := Option.map_eq_some_iff.mp e
      rw [(Shows.den h).bl, blsD_of r e1]
      rfl
    | _ => simp [blsD] at e
def allD : List D → Option (D × Bool)
  | [.lst ds] => (blsD ds).map fun bs => (.bl (bs.all id), false)
  | _ => none
theorem cD_all (hc : X.calm = true) : CallD Z X (.builtin "all") allD := by
  intro pins s σ H xs us Q I r h
  obtain ⟨O, ds, z, hO, sh, e, q⟩ := h
  unfold allD at e
  split at e
  · obtain ⟨ns, e1, rfl⟩ := Option.map_eq_some_iff.mp e
    cases sh with
    | cons sx sr =>
      cases sr
      obtain ⟨a, ys, rfl, h1, c1⟩ := sx.lst
      cases blsD_of c1 e1
      exact cr_all hc pins s σ H _ us Q I r ⟨a, ns, rfl, SqL.of h1, q _ _ (.same (.bl _))⟩
  · cases e
end
end FD

/-! F12: changes of own lists: append, extend, pop, x[i] = e, x[i] op= e; x op= e. -/
namespace FD
open PySem PySem.Spec PyProof.Rows L2

/-- a method of slot i's own list: its new items and what it hands back -/
def mutF {T : Type} (i : Nat) (op : List D → List D → Option (List D × D)) (g : AF T) : EF T := fun s => match s.1[i]? with
  | some (.o (.lst _)) => match g s with
    | none => none
    | some (.ex c fs, s1) => some (.ex c fs, s1)
    | some (.ok rs, s1) => match giveAll s1.1 rs with
      | none => none
      | some (ds, τ) => match τ[i]? with
        | some (.o (.lst xs)) => match op xs ds with
          | none => none
          | some (ys, r) => some (.ok (.d r), (τ.set i (.o (.lst ys)), s1.2))
        | _ => none
  | _ => none
/-- the method's rule does what op says -/
def MutD (Z : Wd) (op : List D → List D → Option (List D × D)) (r : V → List V → Hp → VK → Prop) : Prop :=
  ∀ (O : Addr → Prop) (H : Hp) (a : Addr) (xs vs : List V) (dx ds dy : List D) (rd : D), H a = some (.lst xs) → DenA Z O H xs dx → DenA Z O H vs ds → op dx ds = some (dy, rd) →
    ∃ ys w, DenA Z O H ys dy ∧ Den Z O H w rd ∧ ∀ Q : VK, Q w (upd H a (.lst ys)) → r (.ref a) vs H Q
section
variable {Z : Wd} {C : Fx Z} {X : Cx} {ow : Nat → Option Addr} {τ : List Sl} {t : Z.T} {σ : L2.St} {H H' : Hp} {E : Ends}
theorem Rel.ownLst {i : Nat} {ds : List D} (R : C.Rel ow τ t σ H) (e : τ[i]? = some (.o (.lst ds))) : ∃ a xs, ow (i + 1) = some a ∧ σ[i]? = some (some (.ref a)) ∧ H a = some (.lst xs) ∧ DenA Z (C.Hid ow) H xs ds := by
  obtain ⟨a, o, e1, e2, e3, c⟩ := R.slot i _ e
  cases c with
  | lst c => exact ⟨a, _, e1, e2, e3, c⟩
theorem ev_mut {i : Nat} {op : List D → List D → Option (List D × D)} {r : V → List V → Hp → VK → Prop} {g : AF Z.T} {o e : Expr} {es : List Expr} {name : Str} {id : String} {apos cpos : Pos}
    (slot : Slot "list" name id) (hty : typeOf (.builtin id) = pure (.type "method_descriptor")) (hm : MtR X id r) (hd : MutD Z op r) (ho : PE X o (tVar i)) (ha : PA X (e :: es) (tA C g))
    (hbase : attributeBase o name X.env (eval o X.env) = eval o X.env := by rfl)
    (hfew : ((backTo cpos (starEach (e :: es) X.env)).all (fun x => !x.1) && (backToKw cpos (keywordEach [] X.env)).all (fun x => x.1.isSome)
      && decide ((e :: es).length + ([] : List Keyword).length + (if ([] : List Keyword).isEmpty then 0 else 1) < 30)) = true := by rfl)
    (hline : (apos.endLine == cpos.line) = true := by rfl) (hs : starEach (e :: es) X.env = (false, eval e X.env) :: starEach es X.env := by rfl) (hplain : (backTo cpos (starEach es X.env)).any (·.1) = false := by rfl) :
    PE X (.Call (.Attribute o name apos) (e :: es) [] cpos) (tF C (mutF i op g)) := ⟨fun pins s σ H Q I h => (pe_bm PySem.F.plainAttrs_list slot hty hm ho ha hbase hfew hline hs hplain).run pins s σ H Q I (by
  obtain ⟨ow, τ, t, o, s', R, z, e, k⟩ := h
  unfold mutF at e
  split at e
  · rename_i xs0 p0
    obtain ⟨a, ys0, e1, e2, e3, c0⟩ := R.ownLst p0
    refine ⟨.ref a, e2, .inl ⟨rfl, _, SqL.of e3⟩, ?_⟩
    cases q : g (τ, t) with
    | none => rw [q] at e; cases e
    | some w =>
      obtain ⟨o1, s1⟩ := w
      rw [q] at e
      refine ⟨ow, τ, t, R, z, o1, s1, q, ?_⟩
      cases o1 with
      | ex c fs => cases e; exact k
      | ok rs =>
        intro ow1 vs H1 R1 z1 r1 x1
        simp only at e
        split at e
        · cases e
        · rename_i ds τ2 p1
          obtain ⟨ow2, R2, z2, d2, x2⟩ := r1.give R1 z1 p1
          split at e
          · rename_i xs p2
            split at e
            · cases e
            · rename_i ys rd p3
              cases e
              obtain ⟨b, zs, f1, f2, f3, c⟩ := R2.ownLst p2
              rw [e2] at f2
              cases f2
              obtain ⟨us, w, g1, g2, g3⟩ := hd (C.Hid ow2) H1 a zs vs xs ds ys rd f3 c d2 p3
              refine g3 _ ?_
              have u : Ext (C.Hid ow2) H1 (C.Hid ow2) (upd H1 a (.lst us)) := ext_upd (.inr ⟨_, f1⟩)
              exact k ow2 w _ (R2.mutS f1 p2 (fun _ q => nomatch q) (.lst g1)) ⟨z2, g2.ext u⟩ ((x1.trans x2).trans u)
          · cases e
  · cases e)⟩
def appD : List D → List D → Option (List D × D)
  | xs, [d] => if xs.length < LEN then some (xs ++ [d], .non) else none
  | _, _ => none
theorem mutD_append : MutD Z appD rAppend := by
  intro O H a xs vs dx ds dy rd h c1 c2 e
  unfold appD at e
  split at e
  · split at e
    · rename_i hl
      cases e
      cases c2 with
      | cons d r =>
        cases r
        exact ⟨_, .non, c1.app (.one d), .non, fun Q q => ⟨a, xs, _, rfl, rfl, h, by rw [c1.len]; exact line_len hl, q⟩⟩
    · cases e
  · cases e
def popD : List D → List D → Option (List D × D)
  | xs, [.int i] => if small i = true then match seqIndex? i xs.length with
      | none => none
      | some k => match xs[k]? with
        | none => none
        | some d => some (xs.eraseIdx k, d)
    else none
  | _, _ => none
theorem DenA.erase {O : Addr → Prop} {H : Hp} : ∀ {vs : List V} {ds : List D} (n : Nat), DenA Z O H vs ds → DenA Z O H (vs.eraseIdx n) (ds.eraseIdx n)
  | _, _, _, .nil => .nil
  | _, _, 0, .cons _ t => t
  | _, _, n + 1, .cons r t => .cons r (DenA.erase n t)
theorem mutD_pop : MutD Z popD rPopAt := by
  intro O H a xs vs dx ds dy rd h c1 c2 e
  unfold popD at e
  split at e
  · split at e
    · rename_i hs
      split at e
      · cases e
      · rename_i k p1
        split at e
        · cases e
        · rename_i d p2
          cases e
          cases c2 with
          | cons d' r =>
            cases r
            cases den_int d'
            obtain ⟨w, e1, dw⟩ := c1.get2 p2
            unfold small at hs
            have hs := of_decide_eq_true hs
            exact ⟨_, w, c1.erase k, dw, fun Q q => ⟨a, xs, _, k, w, rfl, rfl, h, by omega, by omega, by rw [c1.len]; exact p1, e1, q⟩⟩
    · cases e
  · cases e
theorem ev_append {i : Nat} {g : AF Z.T} {o e : Expr} {apos cpos : Pos} (ho : PE X o (tVar i)) (ha : PA X [e] (tA C g)) (hbase : attributeBase o "append" X.env (eval o X.env) = eval o X.env := by rfl)
    (hline : (apos.endLine == cpos.line) = true := by rfl) (hs : starEach [e] X.env = [(false, eval e X.env)] := by rfl) : PE X (.Call (.Attribute o "append" apos) [e] [] cpos) (tF C (mutF i appD g)) :=
  ev_mut PySem.F.slot_list_append PySem.F.type_list_append mt_append mutD_append ho ha hbase (by rw [hs]; rfl) hline hs (by rfl)
theorem ev_pop {i : Nat} {g : AF Z.T} {o e : Expr} {apos cpos : Pos} (ho : PE X o (tVar i)) (ha : PA X [e] (tA C g)) (hbase : attributeBase o "pop" X.env (eval o X.env) = eval o X.env := by rfl)
    (hline : (apos.endLine == cpos.line) = true := by rfl) (hs : starEach [e] X.env = [(false, eval e X.env)] := by rfl) : PE X (.Call (.Attribute o "pop" apos) [e] [] cpos) (tF C (mutF i popD g)) :=
  ev_mut PySem.F.slot_list_pop PySem.F.type_list_pop mt_popAt mutD_pop ho ha hbase (by rw [hs]; rfl) hline hs (by rfl)

/-! ### x[k] = e, x[k] op= e -/
/-- slot i's own list, changed at a place -/
def putAt (i : Nat) (τ : List Sl) (k : D) (d : D) : Option (List Sl) := match τ[i]?, k with
  | some (.o (.lst xs)), .int n => match ixN xs.length n with
    | none => none
    | some j => some (τ.set i (.o (.lst (xs.set j d))))
  | _, _ => none
def setIxF {T : Type} (i : Nat) (fk fe : EF T) : SF T := sbind fe fun r s => match give s.1 r with
  | none => none
  | some (d, τ) => match τ[i]? with
    | some (.o (.lst _)) => sbind fk (fun rk s2 => match peek s2.1 (hold rk) with
      | none => none
      | some k => match putAt i s2.1 k d with
        | none => none
        | some τ2 => some (.nx, (τ2, s2.2))) (τ, s.2)
    | _ => none
theorem KnS.bind {f : EF Z.T} {k : Res → SF Z.T} (h : KnS C (sbind f k) ow τ t H E) (R : C.Rel ow τ t σ H) (h0 : ow 0 = none) :
    tF C f σ H fun v H1 => ∃ ow1 τ1 t1 r, C.Rel ow1 τ1 t1 σ H1 ∧ ResOk C ow1 τ1 σ H1 v r ∧ KnS C (k r) ow1 τ1 t1 H1 E ∧ Ext (C.Hid ow) H (C.Hid ow1) H1 := by
  obtain ⟨o, s', e, h⟩ := h
  unfold sbind at e
  cases q : f (τ, t) with
  | none => rw [q] at e; cases e
  | some z =>
    obtain ⟨o1, s1⟩ := z
    rw [q] at e
    cases o1 with
    | ex c fs =>
      cases e
      exact ⟨ow, τ, t, _, _, R, h0, q, fun ow' d H' R' z x e => h ow' σ d H' R' z x e⟩
    | ok r => exact ⟨ow, τ, t, _, _, R, h0, q, fun ow1 v H1 R1 r1 x1 => ⟨ow1, s1.1, s1.2, r, R1, r1, ⟨o, s', e, h.from x1⟩, x1⟩⟩
theorem Rel.putAt {i : Nat} {k d : D} {τ2 : List Sl} {v w : V} (R : C.Rel ow τ t σ H) (e : FD.putAt i τ k d = some τ2) (hk : Shows Z (C.Hid ow) H v k) (hd : Den Z (C.Hid ow) H w d) :
    ∃ a xs n j, ow (i + 1) = some a ∧ σ[i]? = some (some (.ref a)) ∧ v = .int n ∧ H a = some (.lst xs) ∧ ixN xs.length n = some j ∧ C.Rel ow τ2 t σ (upd H a (.lst (xs.set j w))) := by
  unfold FD.putAt at e
  split at e
  · rename_i xs n p
    split at e
    · cases e
    · rename_i j p2
      cases e
      obtain ⟨a, ys, f1, f2, f3, c⟩ := R.ownLst p
      exact ⟨a, ys, n, j, f1, f2, hk.int, f3, by rw [c.len]; exact p2, R.mutS f1 p (fun _ q => nomatch q) (.lst (c.set j hd))⟩
  · cases e
/-! ### x op= e -/
def augF {T : Type} (i : Nat) (op : D → D → Option (D × Bool)) (f : EF T) : SF T := fun s => match s.1[i]? with
  | some (.v x) => sbind f (fun r s1 => match peek s1.1 (hold r) with
    | none => none
    | some y => match op x y with
      | some (z, false) => some (.nx, (s1.1.set i (.v z), s1.2))
      | _ => none) s
  | _ => none
def addI : D → D → Option (D × Bool)
  | .int i, .int j => some (.int (i + j), false)
  | _, _ => none
def subI : D → D → Option (D × Bool)
  | .int i, .int j => some (.int (i - j), false)
  | _, _ => none
/-! ### while -/
def whileN {T : Type} (c : EF T) (b : SF T) : Nat → SF T
  | 0 => fun _ => none
  | n + 1 => ifF c (fun s => match b s with
    | some (.nx, s1) => whileN c b n s1
    | some (.ct, s1) => whileN c b n s1
    | some (.bk, s1) => some (.nx, s1)
    | r => r) nxF
theorem whileN_noB {c : EF Z.T} {b : SF Z.T} : ∀ (n : Nat) (s : Sg Z.T) (o : SOut) (s' : Sg Z.T), whileN c b n s = some (o, s') → o ≠ .bk ∧ o ≠ .ct := by
  intro n
  induction n with
  | zero => intro s o s' e; cases e
  | succ n ih =>
    intro s o s' e
    unfold whileN ifF sbind at e
    split at e
    · cases e
    · cases e
      exact ⟨nofun, nofun⟩
    · dsimp only at e
      split at e
      · split at e
        · exact ih _ _ _ e
        · exact ih _ _ _ e
        · cases e
          exact ⟨nofun, nofun⟩
        · rename_i h1 h2 h3
          refine ⟨fun z => ?_, fun z => ?_⟩
          · subst z
            exact h3 _ e
          · subst z
            exact h2 _ e
      · cases e
        exact ⟨nofun, nofun⟩
      · cases e
def Ends.calm (E : Ends) : Ends := { nx := E.nx, rt := E.rt, bk := fun _ _ => False, ct := fun _ _ => False }
theorem FinS.calm {s' : Sg Z.T} {o : SOut} (h : FinS C ow H E s' o) (n : o ≠ .bk ∧ o ≠ .ct) : FinS C ow H (Ends.calm E) s' o := by
  cases o with
  | nx => exact h
  | rt r => exact h
  | bk => exact absurd rfl n.1
  | ct => exact absurd rfl n.2
  | ex c fs => exact h
theorem tS_while {c : EF Z.T} {b : SF Z.T} (n : Nat) (h : tS C (whileN c b n) E σ H) : tWhile (tT C c) (tS C b) E σ H := by
  refine ⟨fun m σ H => tS C (whileN c b m) (Ends.calm E) σ H, ⟨n, ?_⟩, fun m σ H w => ?_⟩
  · obtain ⟨ow, τ, t, R, z, o, s', e, k⟩ := h
    exact ⟨ow, τ, t, R, z, o, s', e, k.calm (whileN_noB _ _ _ _ e)⟩
  · cases m with
    | zero =>
      obtain ⟨ow, τ, t, R, z, o, s', e, k⟩ := w
      cases e
    | succ m =>
      refine tT_mono (tS_if w) fun bb H1 q => ?_
      cases bb with
      | false =>
        rw [if_neg (by decide)] at q ⊢
        obtain ⟨ow, τ, t, R, z, o, s', e, k⟩ := q
        cases e
        exact k ow σ H1 R z .refl
      | true =>
        rw [if_pos rfl] at q ⊢
        refine ⟨fun σ' H' => tS C (whileN c b m) (Ends.calm E) σ' H', fun σ' H' p => ⟨m, Nat.lt_succ_self m, p⟩, ?_⟩
        obtain ⟨ow, τ, t, R, z, o, s', e, k⟩ := q
        refine ⟨ow, τ, t, R, z, ?_⟩
        dsimp only at e
        split at e
        · rename_i s1 p
          exact ⟨.nx, s1, p, fun ow1 σ1 H1 R1 z1 x1 => ⟨ow1, s1.1, s1.2, R1, z1, o, s', e, k.from x1⟩⟩
        · rename_i s1 p
          exact ⟨.ct, s1, p, fun ow1 σ1 H1 R1 z1 x1 => ⟨ow1, s1.1, s1.2, R1, z1, o, s', e, k.from x1⟩⟩
        · rename_i s1 p
          cases e
          exact ⟨.bk, _, p, fun ow1 σ1 H1 R1 z1 x1 => k ow1 σ1 H1 R1 z1 x1⟩
        · rename_i n1 n2 n3
          cases o with
          | nx => exact absurd e (n1 s')
          | ct => exact absurd e (n2 s')
          | bk => exact absurd e (n3 s')
          | rt r => exact ⟨.rt r, s', e, k⟩
          | ex c fs => exact ⟨.ex c fs, s', e, k⟩
theorem whileN_mono {T : Type} {c : EF T} {b : SF T} : ∀ {n m : Nat} {s : Sg T} {r : SOut × Sg T}, n ≤ m → whileN c b n s = some r → whileN c b m s = some r := by
  intro n
  induction n with
  | zero => intro m s r _ e; cases e
  | succ n ih =>
    intro m s r hm e
    cases m with
    | zero => omega
    | succ m =>
      unfold whileN ifF sbind at e ⊢
      cases q : c s with
      | none => rw [q] at e; cases e
      | some w =>
        obtain ⟨o1, s1⟩ := w
        rw [q] at e
        cases o1 with
        | ex c fs => exact e
        | ok r1 =>
          simp only at e ⊢
          split at e
          · rename_i p
            split at e
            · rename_i s2 p2
              exact ih (by omega) e
            · rename_i s2 p2
              exact ih (by omega) e
            · rename_i s2 p2
              exact e
            · exact e
          · rename_i p
            exact e
          · cases e
open Classical in
/-- while: as many turns as it takes -/
noncomputable def whileF {T : Type} (c : EF T) (b : SF T) : SF T := fun s => if h : ∃ n r, whileN c b n s = some r then whileN c b h.choose s else none
theorem whileF_of {T : Type} {c : EF T} {b : SF T} {n : Nat} {s : Sg T} {r : SOut × Sg T} (e : whileN c b n s = some r) : whileF c b s = some r := by
  have h : ∃ n r, whileN c b n s = some r := ⟨n, r, e⟩
  unfold whileF
  rw [dif_pos h]
  obtain ⟨r', e'⟩ := h.choose_spec
  rw [e']
  rcases Nat.le_total n h.choose with l | l
  · rw [whileN_mono l e] at e'
    exact e'.symm
  · rw [whileN_mono l e'] at e
    exact e
theorem sv_while {c : Expr} {body : List Stmt} {f : EF Z.T} {b : SF Z.T} {pos : Pos} (hp : PassesOwn (model X.prog X.w) X.A X.env X.xe) (hc : PT X c (tT C f)) (hb : PSs X body (tS C b)) : PS X (.While c body [] pos) (tS C (whileF f b)) :=
  ⟨fun pins s σ H E I h => (ps_while hp hc hb).run pins s σ H E I (by
    obtain ⟨ow, τ, t, R, z, o, s', e, k⟩ := h
    have e0 := e
    unfold whileF at e
    split at e
    · rename_i hh
      exact tS_while hh.choose ⟨ow, τ, t, R, z, o, s', e, k⟩
    · cases e)⟩
end
end FD

/-! F13: assignments to targets, of two and three names at once. -/
namespace FD
open PySem PySem.Spec PyProof.Rows L2

def asgF {T : Type} (g : GF) (f : EF T) : SF T := sbind f fun r s => match give s.1 r with
  | none => none
  | some (d, τ) => match g d τ with
    | none => none
    | some τ1 => some (.nx, (τ1, s.2))
def lstG (n : Nat) (h : GFs) : GF := fun d τ => match d with
  | .lst ds => if ds.length = n then h ds τ else none
  | _ => none
/-- a, b = e, f -/
def parF {T : Type} (i j : Nat) (f g : EF T) : SF T := sbind f fun r s => match give s.1 r with
  | none => none
  | some (d, τ) => sbind g (fun r2 s2 => match storeAt j s2.1 r2 with
    | none => none
    | some τ2 => some (.nx, (τ2.set i (.v d), s2.2))) (τ, s.2)
/-- a, b = e, [] -/
def parNF {T : Type} (i j : Nat) (f : EF T) : SF T := sbind f fun r s => match storeAt i s.1 r with
  | none => none
  | some τ => some (.nx, (τ.set j (.o (.lst [])), s.2))
/-- a, b, c = e, f, g -/
def par3F {T : Type} (i j k : Nat) (f g h : EF T) : SF T := sbind f fun r s => match give s.1 r with
  | none => none
  | some (d, τ) => sbind g (fun r2 s2 => match give s2.1 r2 with
    | none => none
    | some (d2, τ2) => sbind h (fun r3 s3 => match storeAt k s3.1 r3 with
      | none => none
      | some τ3 => some (.nx, ((τ3.set j (.v d2)).set i (.v d), s3.2))) (τ2, s2.2)) (τ, s.2)
section
variable {Z : Wd} {C : Fx Z} {X : Cx} {ow : Nat → Option Addr} {τ : List Sl} {t : Z.T} {σ : L2.St} {H H' : Hp} {E : Ends} {S : List Nat}
theorem sv_asg {tg e : Expr} {f : EF Z.T} {g : GF} {pos : Pos} (he : PE X e (tF C f)) (hg : PG X tg (tG C S g)) (hs : swapsWithSole [tg] e pos.line X.env = pure false := by rfl) (hw : swappedStores [tg] e X.env = pure none := by rfl) (h1 : (assignEach [tg] X.env).map (·.2) = [assign tg X.env] := by rfl) :
    PS X (.Assign [tg] e pos) (tS C (asgF g f)) := ⟨fun pins s σ H E I h => (ps_asg he hg hs hw h1).run pins s σ H E I (by
  obtain ⟨ow, τ, t, R, z, kn⟩ := h
  refine tF_mono (kn.bind R z) fun v H1 ⟨ow1, τ1, t1, r, R1, r1, k1, x1⟩ => ?_
  obtain ⟨o1, s1, e1, k1⟩ := k1
  simp only at e1
  split at e1
  · cases e1
  · rename_i d τ2 p1
    obtain ⟨ow2, R2, z2, d2, x2⟩ := r1.give R1 p1
    split at e1
    · cases e1
    · rename_i τ3 p2
      cases e1
      exact ⟨ow2, τ2, t1, d, τ3, R2, z2, d2, p2, fun ow3 σ3 R3 z3 x3 _ => k1 ow3 σ3 H1 R3 z3 (x2.trans x3)⟩)⟩
theorem gv_lst {es : List Expr} {k n : Nat} {h : GFs} {pos : Pos} (hc : X.calm = true) (q : PGs X es (tGs C S h)) (hn : (assignEach es X.env).length = n := by rfl) (hst : (assignEach es X.env).findIdx? (·.1) = none := by rfl) : PG X (.Tuple es k pos) (tG C S (lstG n h)) := ⟨fun pins s σ H v u Q I r w => (pg_lst (n := n) hc q hn hst).run pins s σ H v u Q I r (by
  obtain ⟨ow, τ, t, d, τ', R, z, dn, e, k⟩ := w
  unfold lstG at e
  split at e
  · split at e
    · rename_i hl
      obtain ⟨a, xs, rfl, h1, c⟩ := (Shows.den dn).lst
      exact ⟨a, xs, rfl, SqL.of h1, c.len.trans hl, ow, τ, t, _, τ', R, z, c, e, k⟩
    · cases e
  · cases e)⟩
theorem sv_par {i j : Nat} {x y : Str} {a b : Expr} {f g : EF Z.T} {px py pt pos : Pos} {kt k2 pt2} (hc : X.calm = true) (hN : X.N.Nodup) (hi : X.N[i]? = some x) (hj : X.N[j]? = some y) (hij : i ≠ j)
    (hx : X.env.scope.names.lookup x = some .local) (hy : X.env.scope.names.lookup y = some .local) (ha : PE X a (tF C f)) (hb : PE X b (tF C g))
    (hw : swappedStores [.Tuple [.Name x px, .Name y py] kt pt] (.Tuple [a, b] k2 pt2) X.env = pure (some [x, y]))
    (hs : swapsWithSole [.Tuple [.Name x px, .Name y py] kt pt] (.Tuple [a, b] k2 pt2) pos.line X.env = pure false := by rfl)
    (h1 : starEach [a, b] X.env = (false, eval a X.env) :: starEach [b] X.env := by rfl) (h2 : starEach [b] X.env = (false, eval b X.env) :: starEach [] X.env := by rfl) :
    PS X (.Assign [.Tuple [.Name x px, .Name y py] kt pt] (.Tuple [a, b] k2 pt2) pos) (tS C (parF i j f g)) :=
  ⟨fun pins s σ H E I h => (ps_par hc hN hi hj hij hx hy (pa_cons ha (pa_cons hb pa_nil h2) h1) hw hs).run pins s σ H E I (by
    obtain ⟨ow, τ, t, R, z, kn⟩ := h
    refine tF_mono (kn.bind R z) fun v H1 ⟨ow1, τ1, t1, r, R1, r1, k1, x1⟩ => ?_
    obtain ⟨o1, s1, e1, k1⟩ := k1
    simp only at e1
    split at e1
    · cases e1
    · rename_i d τ2 p1
      obtain ⟨ow2, R2, z2, d2, x2⟩ := r1.give R1 p1
      have kn2 : KnS C (sbind g (fun r2 s2 => match storeAt j s2.1 r2 with
        | none => none
        | some τ2 => some (.nx, (τ2.set i (.v d), s2.2)))) ow2 τ2 t1 H1 E := ⟨o1, s1, e1, k1.from x2⟩
      refine tF_mono (kn2.bind R2 z2) fun w H3 ⟨ow3, τ3, t3, r3, R3, q3, k3, x3⟩ => ?_
      obtain ⟨o3, s3, e3, k3⟩ := k3
      simp only at e3
      split at e3
      · cases e3
      · rename_i τ4 p3
        cases e3
        obtain ⟨ow4, R4, z4, x4⟩ := R3.store q3 p3
        have R5 := R4.set (i := i) (d2.ext (x3.trans x4))
        rw [List.set_comm _ _ (Ne.symm hij)] at R5
        exact ⟨v, w, rfl, k3 _ _ H3 R5 (drop_zero z4) (x4.trans ext_drop)⟩)⟩
theorem sv_parN {i j : Nat} {x y : Str} {a : Expr} {f : EF Z.T} {px py pt pos pe : Pos} {kt k2 pt2} (hc : X.calm = true) (hN : X.N.Nodup) (hi : X.N[i]? = some x) (hj : X.N[j]? = some y) (hij : i ≠ j)
    (hx : X.env.scope.names.lookup x = some .local) (hy : X.env.scope.names.lookup y = some .local) (ha : PE X a (tF C f))
    (hw : swappedStores [.Tuple [.Name x px, .Name y py] kt pt] (.Tuple [a, .List [] pe] k2 pt2) X.env = pure (some [x, y]))
    (hs : swapsWithSole [.Tuple [.Name x px, .Name y py] kt pt] (.Tuple [a, .List [] pe] k2 pt2) pos.line X.env = pure false := by rfl)
    (h1 : starEach [a, .List [] pe] X.env = (false, eval a X.env) :: starEach [.List [] pe] X.env := by rfl) :
    PS X (.Assign [.Tuple [.Name x px, .Name y py] kt pt] (.Tuple [a, .List [] pe] k2 pt2) pos) (tS C (parNF i j f)) :=
  ⟨fun pins s σ H E I h => (ps_par hc hN hi hj hij hx hy (pa_cons ha (pa_cons (pe_lst pa_nil) pa_nil) h1) hw hs).run pins s σ H E I (by
    obtain ⟨ow, τ, t, R, z, kn⟩ := h
    refine tF_mono (kn.bind R z) fun v H1 ⟨ow1, τ1, t1, r, R1, r1, k1, x1⟩ => ?_
    obtain ⟨o1, s1, e1, k1⟩ := k1
    simp only at e1
    split at e1
    · cases e1
    · rename_i τ2 p1
      cases e1
      obtain ⟨ow2, R2, z2, x2⟩ := R1.store r1 p1
      refine ⟨Nat.zero_le _, fun p hp => ?_⟩
      have R3 := R2.pend (o := .lst []) z2 hp (fun _ q => nomatch q)
      have R4 := R3.setOwn (i := j) (d := .lst []) put_same upd_same (.lst .nil)
      refine ⟨v, _, rfl, k1 _ _ _ R4 ?_ ((x2.trans (ext_put hp)).trans ext_move)⟩
      unfold move
      rw [if_neg (by omega), if_pos rfl])⟩
end
end FD

/-! F14: sums, greatest and least of tuples of ints; list(range(..)); isinstance. -/
namespace FD
open PySem PySem.Spec PyProof.Rows L2
section
variable {prog : Program} {w : World} {A : Around} {E : Value → Shared → Prop} {s : Shared} {l : Addr} {xs : Array (Int × Tok)}
theorem sum_intTup {Q : Value → Shared → Prop} (hh : A.handled = none) (hl : s.heap.IsTuple l (intItems xs))
    (h : ∀ h' tk t', (∀ b o, s.heap.get? b = some o → h'.get? b = some o) → Q (.int (preSum (numAt xs) xs.size) t') { s with heap := h', toks := tk }) : wpAny (model prog w) A (call (.builtin "sum") [.ref l]) Q E s := by
  have hlt : l < s.heap.objs.size := by
    obtain ⟨o, e, _⟩ := hl
    exact Heap.lt_size e
  refine call_sum_walkG (wpAny_pyIter_tuple hl ?_)
  refine ⟨s.heap.objs.size, [s.heap.objs.size, l], [s.heap.objs.size], _, _, _, numAt xs, rfl, Walks.tuple (A := A.in1) hh _ l (Nat.ne_of_lt hlt) (intItems xs), ⟨⟨_, Heap.get?_push_size _ rfl, rfl, rfl⟩, hl.push _⟩, fun c hc => ?_, fun _ _ => intItems_at, fun h' tk t' hk => ?_⟩
  · show c < (s.heap.push _).objs.size
    rw [Heap.size_push]
    rcases List.mem_cons.mp hc with rfl | hc
    · exact Nat.lt_succ_self _
    · rcases List.mem_cons.mp hc with rfl | hc
      · exact Nat.lt_succ_of_lt hlt
      · cases hc
  · have := h h' tk t' fun b o e => hk b o (fun hm => absurd (List.mem_singleton.mp hm) (Nat.ne_of_lt (Heap.lt_size e))) (Heap.get?_push_of_some _ e)
    simpa [intItems] using this
end
section
variable {Z : Wd} {C : Fx Z} {X : Cx}
theorem ints_items {its : List Value} {ns : List Int} (hi : IntsAre its ns) : ∃ xs, its.toArray = intItems xs ∧ xs.size = ns.length ∧ preSum (numAt xs) xs.size = ns.sum ∧ (xs.toList.map (·.1)) = ns := by
  obtain ⟨xs, e⟩ := hi.allInts.items
  have hn : numsOf (intItems xs).toList = ns := by rw [← e]; exact hi.numsOf
  rw [nums_intItems] at hn
  refine ⟨xs, e, ?_, ?_, hn⟩
  · rw [← hn]
    simp
  · rw [preSum_eq, List.take_of_length_le (by simp), hn]
def sumD : List D → Option (D × Bool)
  | [.lst ds] => (intsD ds).map fun ns => (.int ns.sum, false)
  | [.tup ds] => (intsD ds).map fun ns => (.int ns.sum, false)
  | _ => none
theorem cD_sum (hc : X.calm = true) : CallD Z X (.builtin "sum") sumD := by
  intro pins s σ H xs us Q I r h
  obtain ⟨O, ds, z, hO, sh, e, q⟩ := h
  unfold sumD at e
  split at e
  · exact cD_sumL hc pins s σ H xs us Q I r ⟨O, _, z, hO, sh, e, q⟩
  · obtain ⟨ns, e1, rfl⟩ := Option.map_eq_some_iff.mp e
    cases intsD_of e1
    cases sh with
    | cons sx sr =>
      cases sr
      obtain ⟨a, ys, rfl, h1, c1, _⟩ := sx.tup
      cases c1.ints
      obtain ⟨its, rv, ht, _⟩ := I.tuple (SqT.of h1)
      obtain ⟨zs, e2, e3, e4, _⟩ := ints_items rv.ints
      rw [Vals.ref1 r]
      have ht : s.heap.IsTuple a its.toArray := ht
      rw [e2] at ht
      refine sum_intTup (I.ok.hd hc) ht fun h' tk t' hk => ⟨.int _, H, I.kept hk, ⟨_, rfl⟩, ?_⟩
      rw [e4]
      exact q _ _ (.same (.int _))
  · cases e
end
end FD

/-! F15: small rules: isinstance, list(range(..)), in, y = [..]. -/
namespace FD
open PySem PySem.Spec PyProof.Rows L2
theorem takes_dead {Z : Wd} {X : Cx} {C : Fx Z} (w : C.W = dead) : Takes X C.W := by
  rw [w]
  exact takes0
theorem runF_len {T : Type} {N n : Nat} {f : SF T} {ds : List D} {t : T} {o : FOut × T} (h : runF N n f ds t = some o) : ds.length = n := by
  unfold runF at h
  split at h
  · assumption
  · cases h
section
variable {Z : Wd} {C : Fx Z} {X : Cx}
/-! ### isinstance -/
def tyN : D → Option String
  | .non => some "NoneType"
  | .bl _ => some "bool"
  | .int _ => some "int"
  | .str _ => some "str"
  | .tup _ => some "tuple"
  | .lst _ => some "list"
  | .dct _ => some "dict"
  | _ => none
def kinds : List String := ["int", "bool", "str", "list", "tuple", "dict"]
def isA (t T : String) : Bool := t == T || (t == "bool" && T == "int")
def isAny (t : String) : List D → Option Bool
  | [] => some false
  | .ty T :: r => if T ∈ kinds then (isAny t r).map (isA t T || ·) else none
  | _ => none
def isiD : List D → Option (D × Bool)
  | [x, .ty T] => match tyN x with
    | some t => if T ∈ kinds then some (.bl (isA t T), false) else none
    | none => none
  | [x, .tup Ts] => match tyN x with
    | some t => (isAny t Ts).map fun b => (.bl b, false)
    | none => none
  | _ => none
theorem tyN_ok {K : PySem.W.Frag} {O : Addr → Prop} {H : Hp} {v : V} {d : D} {t : String} (s : Shows Z O H v d) (e : tyN d = some t) : TyX K H v (.type t) := by
  unfold tyN at e
  split at e
  · cases e; cases s.non; exact .base .non
  · cases e; cases s.bl; exact .base (.bl _)
  · cases e; cases s.int; exact .base (.int _)
  · cases e; cases s.str; exact .base (.str _)
  · cases e
    obtain ⟨a, xs, rfl, h, _⟩ := s.tup
    exact .base (.tup h)
  · cases e
    obtain ⟨a, xs, rfl, h, _⟩ := s.lst
    exact .base (.lst h)
  · cases e
    obtain ⟨a, xs, rfl, h, _⟩ := s.dct
    exact .base (.dK h)
  · cases e
theorem kit_is {K : PySem.W.Frag} {d : D} {t T : String} (e : tyN d = some t) (h : T ∈ kinds) : PySem.W.kitOne K (.type t) (.type T) = some (isA t T) := by
  have cases6 : ∀ {Pr : String → Prop}, (∀ S ∈ kinds, Pr S) → Pr T := fun z => z T h
  refine kit_ty ?_
  unfold tyN at e
  split at e
  · cases e; exact cases6 (Pr := fun T => kitB "NoneType" T = some (isA "NoneType" T)) (by decide +kernel)
  · cases e; exact cases6 (Pr := fun T => kitB "bool" T = some (isA "bool" T)) (by decide +kernel)
  · cases e; exact cases6 (Pr := fun T => kitB "int" T = some (isA "int" T)) (by decide +kernel)
  · cases e; exact cases6 (Pr := fun T => kitB "str" T = some (isA "str" T)) (by decide +kernel)
  · cases e; exact cases6 (Pr := fun T => kitB "tuple" T = some (isA "tuple" T)) (by decide +kernel)
  · cases e; exact cases6 (Pr := fun T => kitB "list" T = some (isA "list" T)) (by decide +kernel)
  · cases e; exact cases6 (Pr := fun T => kitB "dict" T = some (isA "dict" T)) (by decide +kernel)
  · cases e
theorem kit_any {K : PySem.W.Frag} {O : Addr → Prop} {H : Hp} {d : D} {t : String} (e : tyN d = some t) : ∀ {vs : List V} {Ts : List D} {b : Bool}, DenA Z O H vs Ts → isAny t Ts = some b → ∃ us, Paired ClsV vs us ∧ PySem.W.kitAny K (.type t) us = some b
  | _, [], _, .nil, h => by
    cases h
    exact ⟨[], .nil, kitAny_nil⟩
  | _, T :: Ts, b, .cons hv hr, h => by
    cases T with
    | ty T =>
      unfold isAny at h
      split at h
      · rename_i hT
        obtain ⟨b1, h1, rfl⟩ := Option.map_eq_some_iff.mp h
        obtain ⟨us, p, k⟩ := kit_any e hr h1
        cases (Shows.den hv).ty
        refine ⟨.type T :: us, .cons (.ty T) p, kitAny_cons (kit_is e hT) (fun z => ?_) (fun z => ?_)⟩
        · rw [z, Bool.false_or]
          exact k
        · rw [z, Bool.true_or]
      · cases h
    | _ => simp [isAny] at h
theorem cD_isi : CallD Z X (.builtin "isinstance") isiD := by
  intro pins s σ H xs us Q I r h
  obtain ⟨O, ds, z, hO, sh, e, q⟩ := h
  unfold isiD at e
  split at e
  · split at e
    · rename_i t e1
      split at e
      · rename_i hT
        cases e
        cases sh with
        | cons sx sr => cases sr with
          | cons sy sr =>
            cases sr
            cases sy.ty
            exact call_isi pins s σ H _ us Q I r ⟨_, .ty _, .type t, .type _, _, rfl, .ty _, tyN_ok sx e1, kit_is e1 hT, q _ _ (.same (.bl _))⟩
      · cases e
    · cases e
  · split at e
    · rename_i t e1
      obtain ⟨b, e2, rfl⟩ := Option.map_eq_some_iff.mp e
      cases sh with
      | cons sx sr => cases sr with
        | cons sy sr =>
          cases sr
          obtain ⟨a, ys, rfl, h1, c1, _⟩ := sy.tup
          obtain ⟨ws, p, k⟩ := kit_any e1 c1 e2
          exact call_isiT pins s σ H _ us Q I r ⟨_, a, ys, .type t, ws, b, rfl, h1, p, tyN_ok sx e1, k, q _ _ (.same (.bl _))⟩
    · cases e
  · cases e

/-! ### in, not in -/
def isStrD : D → Bool
  | .str _ => true
  | _ => false
def isT (x : Str) : D → Bool
  | .str y => decide (y = x)
  | _ => false
/-- a tuple, a list or a dict is no text -/
def inX : D → List D → Option (D × Bool)
  | .tup _, ds => if ds.all isStrD = true then some (.bl false, false) else none
  | .lst _, ds => if ds.all isStrD = true then some (.bl false, false) else none
  | .dct _, ds => if ds.all isStrD = true then some (.bl false, false) else none
  | .str x, ds => if ds.all isStrD = true then some (.bl (ds.any (isT x)), false) else none
  | _, _ => none
def inD : D → D → Option (D × Bool)
  | x, .lst ds => if okD 63 x = true ∧ okAll 63 ds = true then some (.bl (ds.any fun z => eqB z x), false) else none
  | x, .tup ds => if okD 63 x = true ∧ okAll 63 ds = true then some (.bl (ds.any fun z => eqB z x), false) else inX x ds
  | _, _ => none
def rInTD (K : PySem.W.Frag) : R2 := fun x y H Q => ∃ d ds, Dp K H x d ∧ Dp K H y (.tuple ds) ∧ SeqAt.shaped d = true ∧ SeqAt.shaped (.tuple ds) = true ∧ Q (.bl (ds.any fun z => PyData.eqv z d)) H
theorem op_inTD {X : Cx} (hu : X.A.units + 65 < cLine) : OpR X (compareOp .In) (rInTD X.K) := by
  intro pins s σ H x y v u Q I rx ry h
  obtain ⟨d, ds, hd, he, sd, se, q⟩ := h
  obtain ⟨as, r1⟩ := Dp.reads I d x v hd rx
  obtain ⟨bs, r2⟩ := Dp.reads I (.tuple ds) y u he ry
  exact SeqAt.in_tuple_reads r2 r1 (by have := SeqAt.canLay_of_shaped se; simpa [PyData.canLay0] using this) (SeqAt.canLay_of_shaped sd) (room_in_shaped sd hu) ⟨.bl _, H, I, rfl, q⟩
mutual
theorem okD_up : ∀ {n m : Nat} {d : D}, n ≤ m → okD n d = true → okD m d = true
  | _, _, .non, _, _ => by simp [okD]
  | _, _, .bl _, _, _ => by simp [okD]
  | _, _, .int _, _, _ => by simp [okD]
  | n, m, .str _, _, h => by cases n <;> cases m <;> simpa [okD] using h
  | 0, _, .tup _, _, h => by simp [okD] at h
  | 0, _, .lst _, _, h => by simp [okD] at h
  | n + 1, 0, .tup _, l, _ => by omega
  | n + 1, 0, .lst _, l, _ => by omega
  | n + 1, m + 1, .tup ds, l, h => by
    simp only [okD] at h ⊢
    exact okAll_up (by omega) h
  | n + 1, m + 1, .lst ds, l, h => by
    simp only [okD] at h ⊢
    exact okAll_up (by omega) h
  | n, _, .dct _, _, h => by cases n <;> simp [okD] at h
  | n, _, .obj _ _, _, h => by cases n <;> simp [okD] at h
  | n, _, .ty _, _, h => by cases n <;> simp [okD] at h
  | n, _, .hnd _, _, h => by cases n <;> simp [okD] at h
  | n, _, .fn _, _, h => by cases n <;> simp [okD] at h
theorem okAll_up : ∀ {n m : Nat} {ds : List D}, n ≤ m → okAll n ds = true → okAll m ds = true
  | _, _, [], _, _ => by simp [okAll]
  | n, m, d :: ds, l, h => by
    simp only [okAll, Bool.and_eq_true] at h ⊢
    exact ⟨okD_up l h.1, okAll_up l h.2⟩
end
theorem pys_any (x : D) : ∀ ds : List D, (pys ds).any (fun z => PyData.eqv z (py x)) = ds.any fun z => eqB z x
  | [] => rfl
  | d :: ds => by
    simp only [pys, List.any_cons, pys_any x ds]
    rfl
section
variable {A : Around} {s : Shared}
theorem rc_str_dict {prog : Program} {w : World} {a : Addr} {cls : Value} {dd : Option Addr} {es : Array DictEntry} {ep : Nat} {sl : Array (Option Value)} (dt : s.TypeIs (.ref a) "dict") (ho : s.heap.get? a = some { cls := cls, dict := dd, data := .dict es ep, slots := sl }) (b : Str) (u : Tok) (hu : A.units < cLine) (E Q : Value → Shared → Prop) (h : Q (.bool false) s) :
    wpAny (model prog w) A (richCompare .Eq (.str b u) (.ref a)) Q E s := by
  refine SeqAt.rc_eq_decline_or (k := false) (typeIs_str s b u) dt (by decide) F.sub_dict_str F.slot_str_eq F.slot_dict_eq_refl ?_ ?_
    (fun _ hq => wpAny_of_eq (rfl : isSame (.str b u) (.ref a) = pure false) hq) (.inr hu) h
  · intro Q' hq
    exact call_meets F.slot_str_eq (typeIs_str s b u) F.entry_str_eq (F.args_str_eq_2 _ _) (str_eq_declines_dict b u a cls es ep dd sl) ⟨ho, hq⟩
  · intro Q' hq
    refine wpAny_call_entry PySem.F.slot_dict_eq_refl dt PySem.F.entry_dict_eq ?_ (PySem.F.args_dict_eq_2 _ _)
    show wpAny _ _ (Builtin.Dict.dictSlotArgs "__eq__" ⟨[.ref a, .str b u], []⟩ >>= _) _ _ s
    refine wpAny_bind ?_
    unfold Builtin.Dict.dictSlotArgs
    refine wpAny_bind (wpAny_notOrdered_dict dt ?_)
    show wpAny _ _ (pure (Value.ref a, Value.str b u)) _ _ s
    refine wpAny_pure ?_
    refine wpAny_bind (wpAny_isInstance (T := "str") (typeIs_str s b u) PySem.F.sub_str_dict ?_)
    simp only [Bool.not_false, if_true]
    refine wpAny_bind (wpAny_rule ?_)
    exact wpAny_pure ⟨_, rfl, hq⟩
end
theorem vals_strs {O : Addr → Prop} {H : Hp} : ∀ {ys : List V} {ds : List D} {its : List Value}, DenA Z O H ys ds → ds.all isStrD = true → Vals ys its → ∀ u ∈ its, ∃ z t, u = Value.str z t
  | _, _, _, .nil, _, .nil => fun u hu => by cases hu
  | _, d :: ds, _, .cons h r, e, .cons rv rr => fun u hu => by
    rw [List.all_cons, Bool.and_eq_true] at e
    rcases List.mem_cons.mp hu with rfl | hu
    · cases d with
      | str x =>
        have := (Shows.den h).str
        subst this
        obtain ⟨t, rfl⟩ := rv
        exact ⟨_, _, rfl⟩
      | _ => simp [isStrD] at e
    · exact vals_strs r e.2 rr u hu
def isTV (x : Str) (u : Value) : Bool := match u with
  | .str y _ => decide (y = x)
  | _ => false
theorem any_strs {O : Addr → Prop} {H : Hp} {x : Str} : ∀ {ys : List V} {ds : List D} {its : List Value}, DenA Z O H ys ds → ds.all isStrD = true → Vals ys its → its.any (isTV x) = ds.any (isT x)
  | _, _, _, .nil, _, .nil => rfl
  | _, d :: ds, _, .cons h r, e, .cons rv rr => by
    rw [List.all_cons, Bool.and_eq_true] at e
    rw [List.any_cons, List.any_cons, any_strs r e.2 rr]
    cases d with
    | str y =>
      have := (Shows.den h).str
      subst this
      obtain ⟨t, rfl⟩ := rv
      rfl
    | _ => simp [isStrD] at e
theorem opD_in (hu : X.A.units + 65 < cLine) : OpD Z X (compareOp .In) inD := by
  intro pins s σ H x y v u Q I rx ry h
  obtain ⟨O, dx, dy, z, hO, sx, sy, e, q⟩ := h
  unfold inD at e
  split at e
  · rename_i ds
    split at e
    · rename_i hc
      cases e
      have h1 : okD 64 dx = true := okD_up (by omega) hc.1
      have h2 : okD 64 (.lst ds) = true := by simpa [okD] using hc.2
      have := sy.dp (K := X.K) h2
      simp only [py] at this
      have sh := okD_shaped h2
      simp only [py] at sh
      exact op_inD hu pins s σ H _ _ v u Q I rx ry ⟨_, _, sx.dp h1, this, okD_shaped h1, sh, by rw [pys_any]; exact q _ _ (.same (.bl _))⟩
    · cases e
  · rename_i ds
    split at e
    · rename_i hc
      cases e
      have h1 : okD 64 dx = true := okD_up (by omega) hc.1
      have h2 : okD 64 (.tup ds) = true := by simpa [okD] using hc.2
      have := sy.dp (K := X.K) h2
      simp only [py] at this
      have sh := okD_shaped h2
      simp only [py] at sh
      exact op_inTD hu pins s σ H _ _ v u Q I rx ry ⟨_, _, sx.dp h1, this, okD_shaped h1, sh, by rw [pys_any]; exact q _ _ (.same (.bl _))⟩
    · unfold inX at e
      have hin : X.A.in1.units < cLine := by
        have : X.A.in1.units ≤ X.A.units + 1 := Nat.le_refl _
        omega
      have no : ∀ its : List Value, (its.toArray.any fun _ => false) = false := fun its => by simp
      split at e
      · split at e
        · rename_i he
          cases e
          obtain ⟨a, xs, rfl, h1, c1, _⟩ := sx.tup
          obtain ⟨b, ys, rfl, h2, c2, _⟩ := sy.tup
          cases (show v = Value.ref a from rx)
          cases (show u = Value.ref b from ry)
          obtain ⟨its1, r1, pl1, _⟩ := I.tuple (SqT.of h1)
          obtain ⟨its, r, pl, _⟩ := I.tuple (SqT.of h2)
          refine SeqAt.in_tupleAt (fun _ => false) pl (fun y hy => ?_) (by rw [no]; exact ⟨.bl false, H, I, rfl, q _ _ (.same (.bl _))⟩)
          obtain ⟨z, t, rfl⟩ := vals_strs c2 he r y (by simpa using hy)
          exact SeqAt.EqAt.str_tuple z t pl1 hin
        · cases e
      · split at e
        · rename_i he
          cases e
          obtain ⟨a, xs, rfl, h1, c1⟩ := sx.lst
          obtain ⟨b, ys, rfl, h2, c2, _⟩ := sy.tup
          cases (show v = Value.ref a from rx)
          cases (show u = Value.ref b from ry)
          obtain ⟨its1, r1, pl1, _⟩ := I.list (SqL.of h1)
          obtain ⟨its, r, pl, _⟩ := I.tuple (SqT.of h2)
          refine SeqAt.in_tupleAt (fun _ => false) pl (fun y hy => ?_) (by rw [no]; exact ⟨.bl false, H, I, rfl, q _ _ (.same (.bl _))⟩)
          obtain ⟨z, t, rfl⟩ := vals_strs c2 he r y (by simpa using hy)
          exact SeqAt.EqAt.str_list z t pl1.isList hin
        · cases e
      · split at e
        · rename_i he
          cases e
          obtain ⟨a, xs, rfl, h1, c1⟩ := sx.dct
          obtain ⟨b, ys, rfl, h2, c2, _⟩ := sy.tup
          cases (show v = Value.ref a from rx)
          cases (show u = Value.ref b from ry)
          obtain ⟨_, ya, va, ra, da⟩ := (show ObjOk X.prog X.w H s.heap a (.dK xs) from I.hok a _ h1)
          obtain ⟨its, r, pl, _⟩ := I.tuple (SqT.of h2)
          refine SeqAt.in_tupleAt (fun _ => false) pl (fun y hy => ?_) (by rw [no]; exact ⟨.bl false, H, I, rfl, q _ _ (.same (.bl _))⟩)
          obtain ⟨z, t, rfl⟩ := vals_strs c2 he r y (by simpa using hy)
          intro prog w E Q' hq
          unfold eqBool
          refine wpAny_holding ?_
          refine wpAny_ite_split (fun hab => absurd (eq_of_beq hab) nofun) (fun _ => ?_)
          obtain ⟨⟨cls, dd, data, sl⟩, es, ep, ho, ex, hd, _⟩ := id da
          simp only at hd
          subst hd
          exact wpAny_bind (rc_str_dict da.typeIs ho z t hin E _ (wpAny_truthy_bool hq))
        · cases e
      · rename_i x _
        split at e
        · rename_i he
          cases e
          cases sx.str
          obtain ⟨b, ys, rfl, h2, c2, _⟩ := sy.tup
          obtain ⟨tk, rfl⟩ := rx
          cases (show u = Value.ref b from ry)
          obtain ⟨its, r, pl, _⟩ := I.tuple (SqT.of h2)
          refine SeqAt.in_tupleAt (isTV x) pl (fun y hy => ?_) (by rw [List.any_toArray, any_strs c2 he r]; exact ⟨.bl _, H, I, rfl, q _ _ (.same (.bl _))⟩)
          obtain ⟨z, t, rfl⟩ := vals_strs c2 he r y (by simpa using hy)
          have h3 := SeqAt.EqAt.str_str (A := X.A.in1) (s := s) z t x tk
          have h4 : isTV x (.str z t) = (z == x) := by
            simp only [isTV]
            by_cases q : z = x
            · subst q; simp
            · simp [q]
          rw [h4]
          exact h3
        · cases e
      · cases e
  · cases e
/-! ### y = [..] -/
theorem sv_setLc {i : Nat} {y : Str} {py : Pos} {elt tg iter : Expr} {ifs : List Expr} {scope : Scope} {own : List (Str × Nat)} {pos spos : Pos} {S sh : List Nat} {it : IF Z.T} {g : GF} {c e : EF Z.T} (hc : X.calm = true) (hN : X.N.Nodup) (hi : PI X tg iter (tI C it)) (ok : BlkOk X.N X.env.scope scope own)
    (hg : ∀ (C : Fx Z), C.W = dead → ∀ (s : Shared) (H : Hp) (A : Addr) (cl : List (Str × Addr)) (fp : List Addr), PG (X.blk s H scope (compEnvC scope cl A X.env) fp) tg (tG C S g))
    (ht : ∀ (s : Shared) (H : Hp) (A : Addr) (cl : List (Str × Addr)) (fp : List Addr), PTs (X.blk s H scope (compEnvC scope cl A X.env) fp) ifs (tTx Z c))
    (he : ∀ (C : Fx Z), C.W = dead → ∀ (s : Shared) (H : Hp) (A : Addr) (cl : List (Str × Addr)) (fp : List Addr), PE (X.blk s H scope (compEnvC scope cl A X.env) fp) elt (tF C e))
    (hy : X.N[i]? = some y) (hyl : X.env.scope.names.lookup y = some .local) (hsw : swapsWith (.ListComp elt [⟨tg, iter, ifs, 0⟩] scope pos) (some (.Name y py)) spos.line X.env = pure true)
    (hS : ∀ i ∈ S, i ∈ own.map (·.2) := by decide) (hs : ∀ x, foldedSetIterable iter X.env x = pure x := by intro _; rfl) : PS X (.Assign [.Name y py] (.ListComp elt [⟨tg, iter, ifs, 0⟩] scope pos) spos) (tS C (setF i (lcF sh (own.map (·.2)) it g c e))) :=
  ⟨fun pins s σ H E I h => (ps_setLc hc hN hy hyl hsw hi ok (fun s H A cl fp => ex_G fun C w => hg C w s H A cl fp) ht (fun s H A cl fp => ex_F fun C w => he C w s H A cl fp) hs).run pins s σ H E I (tF_lc hS (tS_set h))⟩
end
end FD

/-! F16: repr of lists and tuples of data. -/
namespace FD
open PySem PySem.Spec PyProof.Rows L2
mutual
inductive Hq (H : Hp) : V → PyData → Prop
  | non : Hq H .non .none
  | bl (b : Bool) : Hq H (.bl b) (.bool b)
  | int (i : Int) : Hq H (.int i) (.int i)
  | str (x : Str) : Hq H (.str x) (.str x)
  | tup {a : Addr} {xs : List V} {ds : List PyData} : H a = some (.tup xs) → HqAll H xs ds → Hq H (.ref a) (.tuple ds)
  | lst {a : Addr} {xs : List V} {ds : List PyData} : H a = some (.lst xs) → HqAll H xs ds → Hq H (.ref a) (.list ds)
  | dct {a : Addr} : H a = some (.dK []) → Hq H (.ref a) (.dict [])
inductive HqAll (H : Hp) : List V → List PyData → Prop
  | nil : HqAll H [] []
  | cons {v : V} {vs : List V} {d : PyData} {ds : List PyData} : Hq H v d → HqAll H vs ds → HqAll H (v :: vs) (d :: ds)
end
section
variable {X : Cx} {pins : List (Addr × Obj)} {σ : L2.St} {H : Hp} {s : Shared}
theorem dict0 (I : Inv X pins σ H s) {a : Addr} (h : H a = some (.dK [])) : (a == sysModules) = false ∧ ∃ o n, s.heap.get? a = some o ∧ o.cls = .type "dict" ∧ o.data = .dict #[] n := by
  obtain ⟨_, ns, kvs, rel, o, es, ep, e1, e2, e3, e4, e5, _⟩ := (show ObjOk X.prog X.w H s.heap a (.dK []) from I.hok a _ h)
  cases rel
  have e6 : es.toList = [] := by
    cases hq : es.toList with
    | nil => rfl
    | cons x r =>
      rw [hq] at e5
      cases e5
  obtain ⟨l⟩ := es
  have e7 : l = [] := e6
  subst e7
  exact ⟨ns, o, ep, e1, e2.1, e3⟩
/-- what repr gives of a value -/
def ShowsQ (X : Cx) (s : Shared) (u : Value) (d : PyData) : Prop := ∃ as bs, Reads s.heap u d as ∧ ReadAtMost s.heap d.depth bs ∧ ReprK X.prog X.w bs s.heap d.depth u d.shown
def ShowsQA (X : Cx) (s : Shared) (us : List Value) (ds : List PyData) : Prop := ∃ as bs, ReadsAll s.heap us ds as ∧ ReadAtMost s.heap (PyData.depthAll ds) bs ∧ ReprAllK X.prog X.w bs s.heap (PyData.depthAll ds) us (PyData.shownAll ds)
mutual
theorem Hq.shows (I : Inv X pins σ H s) : ∀ (d : PyData) (v : V) (u : Value), Hq H v d → RelV v u → d.showable = true → d.shown.length ≤ sizeLine → ShowsQ X s u d
  | .none, _, _, h, r, _, _ => by
    cases h
    cases r
    exact ⟨_, [], .none, (fun _ z => nomatch z), by simp only [PyData.shown]; exact .of_is ReprIs.none _ _ _⟩
  | .bool b, _, _, h, r, _, _ => by
    cases h
    cases r
    exact ⟨_, [], .bool b, (fun _ z => nomatch z), by simp only [PyData.shown]; exact .of_is (ReprIs.bool b) _ _ _⟩
  | .int i, _, _, h, r, hs, _ => by
    cases h
    obtain ⟨t, rfl⟩ := r
    exact ⟨_, [], .int i t, (fun _ z => nomatch z), by simp only [PyData.shown]; exact .of_is (ReprIs.int t (by simpa [PyData.showable] using hs)) _ _ _⟩
  | .str x, _, _, h, r, _, hz => by
    cases h
    obtain ⟨t, rfl⟩ := r
    exact ⟨_, [], .str x t, (fun _ z => nomatch z), by simp only [PyData.shown]; exact .of_is (ReprIs.str x t (by simpa only [PyData.shown] using hz)) _ _ _⟩
  | .list ds, _, _, h, r, hs, hz => by
    cases h with
    | @lst a xs _ e k =>
      cases r
      obtain ⟨_, its, n, rv, ho⟩ := (show ObjOk X.prog X.w H s.heap a (.lst xs) from I.hok a _ e)
      have hz2 : (listText (PyData.shownAll ds)).length ≤ sizeLine := by simpa only [PyData.shown] using hz
      obtain ⟨as, bs, rd, rm, kk⟩ := HqAll.shows I ds xs its k rv (by simpa [PyData.showable] using hs) fun t ht => Nat.le_trans (listText_mem_le ht) hz2
      have whole : Reads s.heap (.ref a) (.list ds) _ := .list (vs := its.toArray) ho rfl rfl (by simpa using rd)
      have out : a ∉ bs := not_mem_of_deeper whole (by simp only [PyData.depth]; omega) rm
      refine ⟨_, a :: bs, whole, ReadAtMost.cons whole (by simp only [PyData.depth]; omega) rm, ?_⟩
      simp only [PyData.depth, PyData.shown]
      cases its with
      | nil =>
        cases rd
        simp only [PyData.shownAll, listText_nil]
        exact ReprK.listEmpty ho rfl rfl
      | cons y l => exact ReprK.list ho rfl rfl out (by simpa using kk.length_eq) fun i z ez => kk.item i z (by simpa using ez)
  | .tuple ds, _, _, h, r, hs, hz => by
    cases h with
    | @tup a xs _ e k =>
      cases r
      obtain ⟨_, its, rv, o, ho, hc, n, hd⟩ := (show ObjOk X.prog X.w H s.heap a (.tup xs) from I.hok a _ e)
      have hz2 : (tupleText (PyData.shownAll ds)).length ≤ sizeLine := by simpa only [PyData.shown] using hz
      obtain ⟨as, bs, rd, rm, kk⟩ := HqAll.shows I ds xs its k rv (by simpa [PyData.showable] using hs) fun t ht => Nat.le_trans (tupleText_mem_le ht) hz2
      have whole : Reads s.heap (.ref a) (.tuple ds) _ := .tuple (vs := its.toArray) ho hc hd (by simpa using rd)
      have out : a ∉ bs := not_mem_of_deeper whole (by simp only [PyData.depth]; omega) rm
      refine ⟨_, a :: bs, whole, ReadAtMost.cons whole (by simp only [PyData.depth]; omega) rm, ?_⟩
      simp only [PyData.depth, PyData.shown]
      exact ReprK.tuple ho hc hd out (by simpa using kk)
  | .dict kvs, _, _, h, r, hs, hz => by
    cases h with
    | @dct a e =>
      cases r
      obtain ⟨ns, o, n, ho, hc, hd⟩ := dict0 I e
      have whole : Reads s.heap (.ref a) (.dict []) _ := .dict (es := #[]) ho hc hd .nil .nil
      refine ⟨_, a :: [], whole, ReadAtMost.cons whole (Nat.zero_le _) (fun _ z => nomatch z), ?_⟩
      simp only [PyData.depth, PyData.shown, PyData.shownKv_eq]
      exact ReprK.dict ho hc hd ns (by simp) (ReprEntriesK.of_two [] [] [] .nil .nil)
theorem HqAll.shows (I : Inv X pins σ H s) : ∀ (ds : List PyData) (vs : List V) (us : List Value), HqAll H vs ds → Vals vs us → PyData.showableAll ds = true → (∀ t ∈ PyData.shownAll ds, t.length ≤ sizeLine) → ShowsQA X s us ds
  | [], _, _, h, r, _, _ => by
    cases h
    cases r
    exact ⟨_, [], .nil, (fun _ z => nomatch z), by simp only [PyData.shownAll]; exact .nil⟩
  | d :: ds, _, _, h, r, hs, hz => by
    cases h with
    | cons h1 h2 =>
      cases r with
      | cons r1 r2 =>
        have hs2 : d.showable = true ∧ PyData.showableAll ds = true := by simpa [PyData.showableAll] using hs
        obtain ⟨as1, bs1, q1, m1, k1⟩ := Hq.shows I d _ _ h1 r1 hs2.1 (hz _ (by simp only [PyData.shownAll]; exact List.mem_cons_self))
        obtain ⟨as2, bs2, q2, m2, k2⟩ := HqAll.shows I ds _ _ h2 r2 hs2.2 fun t ht => hz t (by simp only [PyData.shownAll]; exact List.mem_cons_of_mem _ ht)
        refine ⟨_, bs1 ++ bs2, .cons q1 q2, ?_, ?_⟩
        · simp only [PyData.depthAll]
          exact (m1.mono (Nat.le_max_left _ _)).append (m2.mono (Nat.le_max_right _ _))
        · simp only [PyData.depthAll, PyData.shownAll]
          exact .cons ((k1.more fun b z => List.mem_append_left _ z).level_le (Nat.le_max_left _ _)) (k2.more_le (fun b z => List.mem_append_right _ z) (Nat.le_max_right _ _))
end
end
section
variable {X : Cx}
/-- repr(x) of a list or a tuple -/
def rRepr : List V → Hp → VK → Prop := fun xs H Q => ∃ (v : V) (ds : List PyData) (d : PyData), (d = .list ds ∨ d = .tuple ds) ∧ xs = [v] ∧ Hq H v d ∧ d.showable = true ∧ d.depth ≤ 60 ∧ d.shown.length ≤ sizeLine ∧ Q (.str d.shown) H
theorem call_repr (hG : X.A.guards = some []) (hu : X.A.units + 64 < cLine) : CallR X (.builtin "repr") rRepr := by
  intro pins s σ H xs us Q I r h
  obtain ⟨v, ds, d, hd, rfl, hv, hs, hdp, hz, q⟩ := h
  obtain ⟨u, rfl, ru⟩ := vals1 r
  rcases hd with rfl | rfl
  · cases hv with
    | @lst a xs _ e k =>
      cases ru
      obtain ⟨_, its, n, rv, ho⟩ := (show ObjOk X.prog X.w H s.heap a (.lst xs) from I.hok a _ e)
      have hz2 : (listText (PyData.shownAll ds)).length ≤ sizeLine := by simpa only [PyData.shown] using hz
      obtain ⟨as, bs, rd, rm, kk⟩ := HqAll.shows I ds xs its k rv (by simpa [PyData.showable] using hs) fun t ht => Nat.le_trans (listText_mem_le ht) hz2
      have whole : Reads s.heap (.ref a) (.list ds) _ := .list (vs := its.toArray) ho rfl rfl (by simpa using rd)
      have out : a ∉ bs := not_mem_of_deeper whole (by simp only [PyData.depth]; omega) rm
      have e1 : (PyData.list ds).depth = PyData.depthAll ds + 1 := by simp only [PyData.depth]
      have e2 : (PyData.list ds).shown = listText (PyData.shownAll ds) := by simp only [PyData.shown]
      rw [e2] at q
      refine call_repr_slot (by omega) ⟨_, ho, rfl⟩ F.slot_list_repr.toG ?_
      cases its with
      | nil =>
        cases rd
        simp only [PyData.shownAll, listText_nil] at q
        exact call_list_repr_empty ⟨_, ho, rfl⟩ ho rfl ⟨_, _, rfl, .str _, H, I.tok _, ⟨_, rfl⟩, q⟩
      | cons y l =>
        exact call_list_reprK (A := X.A.in1) ho rfl rfl out (by simpa using kk.length_eq) (fun i z ez => kk.item i z (by simpa using ez)) hG (fun b _ => Clear.nil b) (by show X.A.units + 1 + _ < cLine; omega) (fun _ _ z => z)
          (fun h' u' tk hk => ⟨_, _, rfl, .str _, H, I.kept hk, ⟨_, rfl⟩, q⟩) hz2
  · cases hv with
    | @tup a xs _ e k =>
      cases ru
      obtain ⟨_, its, rv, o, ho, hc, n, hd⟩ := (show ObjOk X.prog X.w H s.heap a (.tup xs) from I.hok a _ e)
      have hz2 : (tupleText (PyData.shownAll ds)).length ≤ sizeLine := by simpa only [PyData.shown] using hz
      obtain ⟨as, bs, rd, rm, kk⟩ := HqAll.shows I ds xs its k rv (by simpa [PyData.showable] using hs) fun t ht => Nat.le_trans (tupleText_mem_le ht) hz2
      have whole : Reads s.heap (.ref a) (.tuple ds) _ := .tuple (vs := its.toArray) ho hc hd (by simpa using rd)
      have out : a ∉ bs := not_mem_of_deeper whole (by simp only [PyData.depth]; omega) rm
      have e1 : (PyData.tuple ds).depth = PyData.depthAll ds + 1 := by simp only [PyData.depth]
      have e2 : (PyData.tuple ds).shown = tupleText (PyData.shownAll ds) := by simp only [PyData.shown]
      rw [e2] at q
      refine call_repr_slot (by omega) ⟨_, ho, hc⟩ F.slot_tuple_repr ?_
      exact call_tuple_reprK (A := X.A.in1) ho hc hd out (by simpa using kk) hG (fun b _ => Clear.nil b) (by show X.A.units + 1 + _ < cLine; omega) (fun _ _ z => z)
        (fun h' u' tk hk => ⟨_, _, rfl, .str _, H, I.kept hk, ⟨_, rfl⟩, q⟩) hz2
end
end FD

namespace FD
open PySem PySem.Spec PyProof.Rows L2
mutual
/-- a datum's text is that of this one -/
def pq : D → Option PyData
  | .non => some .none
  | .bl b => some (.bool b)
  | .int i => some (.int i)
  | .str x => some (.str x)
  | .tup ds => (pqs ds).map .tuple
  | .lst ds => (pqs ds).map .list
  | .dct [] => some (.dict [])
  | _ => none
def pqs : List D → Option (List PyData)
  | [] => some []
  | d :: ds => match pq d, pqs ds with
    | some a, some b => some (a :: b)
    | _, _ => none
end
section
variable {Z : Wd} {O : Addr → Prop} {H : Hp}
mutual
theorem Den.hq : ∀ {v : V} {d : D}, Den Z O H v d → ∀ {p : PyData}, pq d = some p → Hq H v p
  | _, _, .non => fun e => by simp only [pq] at e; cases e; exact .non
  | _, _, .bl b => fun e => by simp only [pq] at e; cases e; exact .bl b
  | _, _, .int i => fun e => by simp only [pq] at e; cases e; exact .int i
  | _, _, .str x => fun e => by simp only [pq] at e; cases e; exact .str x
  | _, _, .ty x => fun h => by simp [pq] at h
  | _, _, .hnd x => fun h => by simp [pq] at h
  | _, _, .fn x => fun h => by simp [pq] at h
  | _, _, .ref e m c => fun h => Cont.hq c e h
theorem Cont.hq : ∀ {o : HO} {d : D}, Cont Z O H o d → ∀ {a : Addr} {p : PyData}, H a = some o → pq d = some p → Hq H (.ref a) p
  | _, _, .tup c => fun e h => by
    simp only [pq] at h
    obtain ⟨qs, h1, rfl⟩ := Option.map_eq_some_iff.mp h
    exact .tup e (DenA.hq c h1)
  | _, _, .lst c => fun e h => by
    simp only [pq] at h
    obtain ⟨qs, h1, rfl⟩ := Option.map_eq_some_iff.mp h
    exact .lst e (DenA.hq c h1)
  | _, _, .dct c => fun e h => by
    cases c with
    | nil =>
      simp only [pq] at h
      cases h
      exact .dct e
    | cons _ _ => simp [pq] at h
  | _, _, .obj c => fun e h => by simp [pq] at h
theorem DenA.hq : ∀ {vs : List V} {ds : List D}, DenA Z O H vs ds → ∀ {ps : List PyData}, pqs ds = some ps → HqAll H vs ps
  | _, _, .nil => fun e => by
    simp only [pqs] at e
    cases e
    exact .nil
  | _, _, .cons q r => fun e => by
    simp only [pqs] at e
    split at e
    · rename_i p1 p2
      cases e
      exact .cons (Den.hq q p1) (DenA.hq r p2)
    · cases e
end
end
/-- what repr can be asked of -/
def Shown (p : PyData) : Prop := p.showable = true ∧ p.depth ≤ 60 ∧ p.shown.length ≤ sizeLine
instance (p : PyData) : Decidable (Shown p) := inferInstanceAs (Decidable (_ ∧ _ ∧ _))
def isSeq : PyData → Bool
  | .list _ => true
  | .tuple _ => true
  | _ => false
def reprD : List D → Option (D × Bool)
  | [x] => match pq x with
    | some p => if isSeq p = true ∧ Shown p then some (.str p.shown, false) else none
    | none => none
  | _ => none
theorem Shows.hq {Z : Wd} {O : Addr → Prop} {H : Hp} {v : V} {d : D} {p : PyData} (s : Shows Z O H v d) (e : pq d = some p) : Hq H v p := by
  cases s with
  | den s => exact s.hq e
  | own h _ c => exact c.hq h e
theorem cD_repr {Z : Wd} {X : Cx} (hG : X.A.guards = some []) (hu : X.A.units + 64 < cLine) : CallD Z X (.builtin "repr") reprD := by
  intro pins s σ H xs us Q I r h
  obtain ⟨O, ds, z, hO, sh, e, q⟩ := h
  unfold reprD at e
  split at e
  · split at e
    · rename_i p e1
      split at e
      · rename_i hp
        cases e
        cases sh with
        | cons sx sr =>
          cases sr
          have : ∃ ds : List PyData, p = .list ds ∨ p = .tuple ds := by
            obtain ⟨h1, _⟩ := hp
            unfold isSeq at h1
            split at h1
            · exact ⟨_, .inl rfl⟩
            · exact ⟨_, .inr rfl⟩
            · cases h1
          obtain ⟨ps, hps⟩ := this
          exact call_repr hG hu pins s σ H _ us Q I r ⟨_, ps, p, hps, rfl, sx.hq e1, hp.2.1, hp.2.2.1, hp.2.2.2, q _ _ (.same (.str _))⟩
      · cases e
    · cases e
  · cases e
end FD

/-! F17: sorted of ints, by reverse; list(range(..)), tuple(range(..)). -/
namespace FD
open PySem PySem.Spec PyProof.Rows L2
/-! ### sorted of a tuple -/
section
variable {prog : Program} {w : World} {A : Around} {E : Value → Shared → Prop} {s : Shared}
def gathered (h : Heap) (us : List Value) : Heap := (h.push (seqObj "list" #[] 0)).update h.objs.size (Obj.mapSeq (· ++ us.toArray))
theorem gather_tup {a : Addr} {us : List Value} {R : List Value → Shared → Prop} (ht : IsTup s.heap a us.toArray) (hz : us.length ≤ sizeLine) (k : R us { s with heap := gathered s.heap us }) :
    wpAny (model prog w) A (collect (.ref a)) R E s := by
  obtain ⟨ob, hob, hcl, m, hdat⟩ := id ht
  unfold collect
  refine wpAny_bind (wpAny_runValue (codeAny_builtin entry_proto_collect' ?_))
  show wpAny _ _ (newList [] >>= fun acc => again (.builtin "list.__iadd__" ⟨[acc, .ref a], []⟩)) _ _ s
  refine wpAny_bind (wpAny_newList (wpAny_pure ⟨Code.quiet_builtin _ (by decide +kernel), codeAny_builtin entry_list_iadd' ?_⟩))
  show wpAny _ _ (Builtin.List.listExtendWith (.ref s.heap.objs.size) (.ref a) (.ref s.heap.objs.size)) _ _ { s with heap := s.heap.push (seqObj "list" #[] 0) }
  unfold Builtin.List.listExtendWith
  have hob' : (s.heap.push (seqObj "list" #[] 0)).get? a = some ob := Heap.get?_push_of_some _ hob
  refine wpAny_bind (wpAny_typeOf (T := "tuple") ⟨ob, hob', hcl⟩ ?_)
  have isT : (Value.type "tuple" == Value.type "tuple") = true := by rfl
  rw [if_pos (by rw [isT]; simp)]
  refine wpAny_bind (listItems_at hob' hdat (wpAny_bind (listItems_at (xs := #[]) (n := 0) (Heap.get?_push_size _ rfl) rfl ?_)))
  rw [if_neg (by simp)]
  refine wpAny_bind (listUpdate_at (xs := #[]) (n := 0) (Heap.get?_push_size _ rfl) rfl ?_ (Nat.zero_le _) (by show (#[] ++ us.toArray).size ≤ sizeLine + 1; simp only [Array.size_append, List.size_toArray, List.length_nil]; omega))
  refine wpAny_pure (show wpAny (model prog w) A (do
      let fin ← load s.heap.objs.size
      match fin.data with
      | .seq got _ => pure got.toList
      | _ => unsupported "internal:collect") R E { s with heap := gathered s.heap us } from wpAny_bind (wpAny_load (get?_update_seq (Heap.get?_push_size _ rfl) _) ?_))
  show wpAny _ _ (pure ((#[] : Array Value) ++ us.toArray).toList) R E _
  rw [show ((#[] : Array Value) ++ us.toArray).toList = us by simp]
  exact wpAny_pure k
open Srt SrtO in
/-- sorted(t, ..) of a tuple, by keywords that say reverse=b -/
theorem sorted_ordT {l : Addr} {vs : List Value} {b : Bool} {kw : List (Str × Value)} {ltv : Value → Value → Bool} {Q : Value → Shared → Prop} (hk : ∀ a, Builtin.«list.sort» ⟨[.ref a], kw⟩ = Builtin.«list.sort» ⟨[.ref a], [(Str.ofString "reverse", .bool b)]⟩)
    (ha1 : argsOk "sorted" ⟨[.ref l], kw⟩) (ha2 : ∀ a, argsOk "list.sort" ⟨[a], kw⟩) (O : Swo ltv) (hl : IsTup s.heap l vs.toArray) (hz : vs.length ≤ sizeLine)
    (hS : 2 ≤ vs.length → ∀ (h₁ : Heap) (a : Addr), h₁.get? a = some (seqObj "list" vs.toArray 0) → (∀ b o, s.heap.get? b = some o → b ≠ a ∧ h₁.get? b = some o) → SortableO prog w A.in1.in1 { s with heap := h₁ } a vs ltv)
    (h : ∀ out : List Value, Srtd ltv out → Stb ltv out (if b = true then vs.reverse else vs) → Q (.ref (s.heap.objs.size + 1)) { s with heap := sortedAll s.heap vs (if b = true then out.toArray.reverse else out.toArray) }) :
    wpAny (model prog w) A (call (.builtin "sorted") [.ref l] kw) Q E s := by
  refine call_function_entry_kw kind_sorted plain_sorted entry_sorted ha1 ?_
  unfold Builtin.«sorted»
  refine wpAny_bind (m := checkCount "sorted" 1 1 _) (wpAny_pure ?_)
  refine wpAny_bind (gather_tup hl hz ?_)
  unfold gathered
  refine wpAny_bind (wpAny_newList ?_ hz)
  have hsz : ((s.heap.push (seqObj "list" #[] 0)).update s.heap.objs.size (Obj.mapSeq (· ++ vs.toArray))).objs.size = s.heap.objs.size + 1 := by
    rw [Heap.size_update, size_push']
  have hoL : (((s.heap.push (seqObj "list" #[] 0)).update s.heap.objs.size (Obj.mapSeq (· ++ vs.toArray))).push (seqObj "list" vs.toArray 0)).get? (s.heap.objs.size + 1) = some (seqObj "list" vs.toArray 0) := by
    rw [← hsz]; exact Heap.get?_push_size _ rfl
  have keep : ∀ b o, s.heap.get? b = some o → b ≠ s.heap.objs.size + 1 ∧ (((s.heap.push (seqObj "list" #[] 0)).update s.heap.objs.size (Obj.mapSeq (· ++ vs.toArray))).push (seqObj "list" vs.toArray 0)).get? b = some o := fun b o q => by
    have hlt : b < s.heap.objs.size := Heap.lt_size q
    refine ⟨Nat.ne_of_lt (Nat.lt_succ_of_lt hlt), Heap.get?_push_of_some _ ?_⟩
    rw [Heap.get?_update_ne _ _ _ _ (Nat.ne_of_lt hlt)]
    exact Heap.get?_push_of_some _ q
  show wpAny _ _ _ _ _ { s with heap := ((s.heap.push (seqObj "list" #[] 0)).update s.heap.objs.size (Obj.mapSeq (· ++ vs.toArray))).push (seqObj "list" vs.toArray 0) }
  rw [hsz]
  refine wpAny_bind (wpAny_holding (wpAny_call_entry_kw slot_list_sort ⟨_, hoL, rfl⟩ entry_list_sort ?_ (ha2 _)))
  rw [hk]
  refine SrtR.list_sort_ordR O hoL hz (fun h2 => hS h2 _ _ hoL keep) fun out hs hb => ⟨_, rfl, ?_⟩
  exact wpAny_pure ⟨_, rfl, h out hs hb⟩
end
section
variable {X : Cx}
theorem sorted_runT {b : Bool} {kw : List (Str × Value)} {pins : List (Addr × Obj)} {s : Shared} {σ : L2.St} {H : Hp} {a : Addr} {ns : List Int} {Q : VK} (I : Inv X pins σ H s) (hs : SqT X.K H a (ns.map V.int))
    (hk : ∀ a, Builtin.«list.sort» ⟨[.ref a], kw⟩ = Builtin.«list.sort» ⟨[.ref a], [(Str.ofString "reverse", .bool b)]⟩) (ha1 : argsOk "sorted" ⟨[.ref a], kw⟩) (ha2 : ∀ a, argsOk "list.sort" ⟨[a], kw⟩)
    (q : ∀ (ns' : List Int) (p : Addr), ns'.Perm ns → OrdB b ns' → H p = none → Q (.ref p) (upd H p (.lst (ns'.map V.int)))) : wpAny (model X.prog X.w) X.A (call (.builtin "sorted") [.ref a] kw) (EP X pins σ Q) X.xe s := by
  obtain ⟨its, rv, hl, hz⟩ := I.tuple hs
  have hi := rv.ints
  refine sorted_ordT hk ha1 ha2 SrtO.swo_int hl (by rw [← rv.length]; exact hz) (fun h2 h₁ a' _ _ => SrtO.ints_sortable hi h2) fun out h1 h2 => ?_
  obtain ⟨ns', k1, k2, k3⟩ := SrtR.ints_outR hi h1 h2
  obtain ⟨ep, he'⟩ := PyProof.Rows.sortedAll_at s.heap its (if b = true then out.toArray.reverse else out.toArray)
  have hlen : (ns'.map V.int).length ≤ sizeLine := by
    rw [List.length_map, k2.length_eq]
    rw [List.length_map] at hz
    exact hz
  have e0 : ((if b = true then out.toArray.reverse else out.toArray).toList).toArray = (if b = true then out.toArray.reverse else out.toArray) := by rw [Array.toArray_toList]
  exact ⟨.ref _, upd H (s.heap.objs.size + 1) (.lst (ns'.map V.int)), I.laid (t' := s.toks) (fun _ _ => PyProof.Rows.sortedAll_old) (Nat.le_succ _) ⟨hlen, _, ep, vals_of_ints k1, by rw [e0]; exact he'⟩, rfl, q _ _ k2 k3 (I.hok.fresh (Nat.le_succ _))⟩
end
/-! ### one order of ints -/
def sortUp (ns : List Int) : List Int := ns.mergeSort fun a b => decide (a ≤ b)
def sortDown (ns : List Int) : List Int := ns.mergeSort fun a b => decide (b ≤ a)
theorem sorted_one : ∀ {xs ys : List Int}, xs.Perm ys → xs.Pairwise (· ≤ ·) → ys.Pairwise (· ≤ ·) → xs = ys
  | [], ys, p, _, _ => (List.nil_perm.mp p).symm
  | x :: xs, [], p, _, _ => absurd p.length_eq (by simp)
  | x :: xs, y :: ys, p, h1, h2 => by
    rw [List.pairwise_cons] at h1 h2
    have e : x = y := by
      have m1 : x ∈ y :: ys := p.subset List.mem_cons_self
      have m2 : y ∈ x :: xs := p.symm.subset List.mem_cons_self
      have a1 : y ≤ x := by
        rcases List.mem_cons.mp m1 with z | z
        · omega
        · exact h2.1 _ z
      have a2 : x ≤ y := by
        rcases List.mem_cons.mp m2 with z | z
        · omega
        · exact h1.1 _ z
      omega
    subst e
    rw [sorted_one p.cons_inv h1.2 h2.2]
theorem sorted_oneR : ∀ {xs ys : List Int}, xs.Perm ys → xs.Pairwise (· ≥ ·) → ys.Pairwise (· ≥ ·) → xs = ys := fun {xs ys} p h1 h2 => by
  have := sorted_one (xs := xs.reverse) (ys := ys.reverse) ((List.reverse_perm xs).trans (p.trans (List.reverse_perm ys).symm)) (List.pairwise_reverse.mpr h1) (List.pairwise_reverse.mpr h2)
  rw [← List.reverse_reverse xs, this, List.reverse_reverse]
theorem sortUp_perm (ns : List Int) : (sortUp ns).Perm ns := List.mergeSort_perm _ _
theorem sortDown_perm (ns : List Int) : (sortDown ns).Perm ns := List.mergeSort_perm _ _
theorem sortUp_sorted (ns : List Int) : (sortUp ns).Pairwise (· ≤ ·) := by
  have := List.pairwise_mergeSort (le := fun a b : Int => decide (a ≤ b)) (fun a b c h1 h2 => by simp at *; omega) (fun a b => by simp; omega) ns
  exact this.imp fun h => of_decide_eq_true h
theorem sortDown_sorted (ns : List Int) : (sortDown ns).Pairwise (· ≥ ·) := by
  have := List.pairwise_mergeSort (le := fun a b : Int => decide (b ≤ a)) (fun a b c h1 h2 => by simp at *; omega) (fun a b => by simp; omega) ns
  exact this.imp fun h => of_decide_eq_true h
section
variable {Z : Wd} {C : Fx Z} {X : Cx}
def sortOf (b : Bool) (ns : List Int) : List Int := if b = true then sortDown ns else sortUp ns
theorem sortOf_one {b : Bool} {xs ns : List Int} (p : xs.Perm ns) (h : OrdB b xs) : xs = sortOf b ns := by
  cases b with
  | true => exact sorted_oneR (p.trans (sortDown_perm ns).symm) h (sortDown_sorted ns)
  | false => exact sorted_one (p.trans (sortUp_perm ns).symm) h (sortUp_sorted ns)
/-- sorted of ints, of a list or a tuple -/
def sortBD (b : Bool) : List D → Option (D × Bool)
  | [.lst ds] => (intsD ds).map fun ns => (.lst ((sortOf b ns).map D.int), true)
  | [.tup ds] => (intsD ds).map fun ns => (.lst ((sortOf b ns).map D.int), true)
  | _ => none
def sortD : List D → Option (D × Bool) := sortBD false
theorem runs_sort {b : Bool} {kw : List (Str × Value)} {pins : List (Addr × Obj)} {s : Shared} {σ : L2.St} {H : Hp} {xs : List V} {us : List Value} {Q : VK} (I : Inv X pins σ H s) (r : Vals xs us) (h : rDA Z (sortBD b) xs H Q)
    (hk : ∀ a, Builtin.«list.sort» ⟨[.ref a], kw⟩ = Builtin.«list.sort» ⟨[.ref a], [(Str.ofString "reverse", .bool b)]⟩) (ha1 : ∀ a, argsOk "sorted" ⟨[.ref a], kw⟩) (ha2 : ∀ a, argsOk "list.sort" ⟨[a], kw⟩) :
    wpAny (model X.prog X.w) X.A (call (.builtin "sorted") us kw) (EP X pins σ Q) X.xe s := by
  obtain ⟨O, ds, z, hO, sh, e, q⟩ := h
  unfold sortBD at e
  split at e
  · obtain ⟨ns, e1, rfl⟩ := Option.map_eq_some_iff.mp e
    cases intsD_of e1
    cases sh with
    | cons sx sr =>
      cases sr
      obtain ⟨a, ys, rfl, h1, c1⟩ := sx.lst
      cases c1.ints
      obtain rfl := Vals.ref1 r
      refine sorted_run I (SqL.of h1) hk (ha1 _) ha2 fun ns' p h2 h3 h4 => ?_
      rw [sortOf_one h2 h3]
      exact q _ _ (.lst h4 (denA_ints _))
  · obtain ⟨ns, e1, rfl⟩ := Option.map_eq_some_iff.mp e
    cases intsD_of e1
    cases sh with
    | cons sx sr =>
      cases sr
      obtain ⟨a, ys, rfl, h1, c1, _⟩ := sx.tup
      cases c1.ints
      obtain rfl := Vals.ref1 r
      refine sorted_runT I (SqT.of h1) hk (ha1 _) ha2 fun ns' p h2 h3 h4 => ?_
      rw [sortOf_one h2 h3]
      exact q _ _ (.lst h4 (denA_ints _))
  · cases e
theorem key_no (a : Addr) : Builtin.«list.sort» ⟨[.ref a], []⟩ = Builtin.«list.sort» ⟨[.ref a], [(Str.ofString "reverse", .bool false)]⟩ := by
  rw [list_sort_rev]
  first | rfl | kernel_rfl
theorem cD_sort : CallD Z X (.builtin "sorted") sortD := by
  intro pins s σ H xs us Q I r h
  exact runs_sort (b := false) I r h key_no (fun a => PyProof.Rows.args_sorted1 _) (fun a => PyProof.Rows.args_list_sort _)

/-! ### list(range(..)), tuple(range(..)) -/
def lrng1F {T : Type} (f : EF T) : EF T := bindF f fun r => doneF fun τ => match peek τ (hold r) with
  | some (.int n) => if n ≤ LEN ∧ small n = true then some (.lst (rngL 0 n), true) else none
  | _ => none
def trng1F {T : Type} (f : EF T) : EF T := bindF f fun r => doneF fun τ => match peek τ (hold r) with
  | some (.int n) => if n ≤ LEN ∧ small n = true then some (.tup (rngL 0 n), false) else none
  | _ => none
theorem den_rg {O : Addr → Prop} {H : Hp} (a b : Int) : DenA Z O H (rgV a b) (rngL a b) := by
  unfold rgV rngL
  induction (List.range (b - a).toNat) with
  | nil => exact .nil
  | cons k r ih => exact .cons (.int _) ih
theorem rg_ok {n : Int} (h : n ≤ LEN ∧ small n = true) : RgOk 0 n := by
  obtain ⟨h1, h2⟩ := h
  unfold small at h2
  have h2 := of_decide_eq_true h2
  unfold RgOk
  simp only [LEN] at h1
  exact ⟨by omega, by omega, by omega, by omega, by omega⟩
theorem ev_lrng1 {f : EF Z.T} {p pos p2 pos2 : Pos} {a : Expr} (hc : X.calm = true) (hg : Gl X "list") (hm : X.mg "list" = none) (hg2 : Gl X "range") (hm2 : X.mg "range" = none) (ha : PE X a (tF C f))
    (n1 : starEach [a] X.env = (false, eval a X.env) :: starEach [] X.env := by rfl) (n2 : starEach [.Call (.Name "range" p2) [a] [] pos2] X.env = (false, eval (.Call (.Name "range" p2) [a] [] pos2) X.env) :: starEach [] X.env := by rfl) :
    PE X (.Call (.Name "list" p) [.Call (.Name "range" p2) [a] [] pos2] [] pos) (tF C (lrng1F f)) :=
  ⟨fun pins s σ H Q I h => (pe_listRg hc hg hm (prg_1 hg2 hm2 ha n1) n2).run pins s σ H Q I (by
    obtain ⟨ow, τ, t, R, h0, h⟩ := h.at_
    refine tF_mono (h.bind R h0) fun x H1 ⟨ow1, τ1, t1, ra, R1, r1, h1, _⟩ => ?_
    obtain ⟨ow2, R2, z2, r2, x2⟩ := r1.hold R1
    obtain ⟨z, e, q⟩ := (h1.from x2).done R2 z2
    split at e
    · rename_i n p1
      split at e
      · rename_i hn
        cases e
        exact ⟨n, (r2.peek R2 p1).int, rg_ok hn, fun l hl => q _ _ (.lst hl (den_rg 0 n))⟩
      · cases e
    · cases e)⟩
end
end FD

/-! F18: the deck as a world: its state, a draw. -/
namespace FD
open PySem PySem.Spec PyProof.Rows L2
structure Dk where
  a : Addr
  l1 : Addr
  l2 : Addr
structure Dk.At (D : Dk) (H : Hp) (c : Nat) (big cells : List Int) : Prop where
  top : H D.a = some (.lst [.ref D.l1, .ref D.l2, .int c])
  one : H D.l1 = some (.lst (big.map V.int))
  two : H D.l2 = some (.lst (cells.map V.int))
  pos : 0 < cells.length
  ne1 : D.a ≠ D.l1
  ne2 : D.a ≠ D.l2
  ne3 : D.l2 ≠ D.l1
structure DS where
  c : Nat
  big : List Int
  cells : List Int
/-- a mixed draw -/
def mixed (m : Int) (c : Nat) (cells : List Int) : Int :=
  let x := (cells[(((c + 1 : Nat) : Int) % (cells.length : Int)).toNat]?.getD 0) % 2147483647
  let y := (x * (16807 + 39373 * ((c + 1 : Nat) : Int)) + 40692 * ((c + 1 : Nat) : Int) * ((c + 1 : Nat) : Int) + 97) % 2147483629
  y * y % 2147483587 / 16 % m
def drawB : List Int → Int → Option (Int × List Int)
  | [], _ => none
  | b :: r, m => if 0 < b then some (b % m, (b / m) :: r) else drawB r m
def DS.draw (m : Int) (s : DS) : Int := match drawB s.big m with
  | some (v, _) => v
  | none => mixed m s.c s.cells
def DS.step (m : Int) (s : DS) : DS := match drawB s.big m with
  | some (_, r) => { s with big := r }
  | none => ⟨s.c + 1, [], s.cells⟩
theorem drawB_in {m : Int} (hm : 0 < m) : ∀ {bs : List Int} {v : Int} {r : List Int}, drawB bs m = some (v, r) → 0 ≤ v ∧ v < m
  | [], _, _, h => by cases h
  | b :: bs, v, r, h => by
    unfold drawB at h
    split at h
    · cases h
      exact ⟨Int.emod_nonneg _ (by omega), Int.emod_lt_of_pos _ hm⟩
    · exact drawB_in hm h
theorem DS.draw_in {m : Int} (hm : 0 < m) (s : DS) : 0 ≤ s.draw m ∧ s.draw m < m := by
  unfold DS.draw
  split
  · rename_i p
    exact drawB_in hm p
  · unfold mixed
    exact ⟨Int.emod_nonneg _ (by omega), Int.emod_lt_of_pos _ hm⟩
theorem DS.step_c {m : Int} {s : DS} : (s.step m).c ≤ s.c + 1 := by
  unfold DS.step
  split
  · exact Nat.le_succ _
  · exact Nat.le_refl _
/-- the world with a deck at A -/
def Zdk (A : Dk) (ca : Str → Addr) (fv : Nat → V := fun _ => .non) : Wd where
  T := DS
  On := fun s H => A.At H s.c s.big s.cells
  hid := fun a => a = A.a ∨ a = A.l1 ∨ a = A.l2
  val := fun _ => .ref A.a
  fv := fv
  ca := ca
  loc := fun t H H' d k => ⟨k _ _ (.inl (.inl rfl)) d.top, k _ _ (.inl (.inr (.inl rfl))) d.one, k _ _ (.inl (.inr (.inr rfl))) d.two, d.pos, d.ne1, d.ne2, d.ne3⟩
  trk := fun t H a d h => by
    rcases h with rfl | rfl | rfl
    · exact ⟨_, d.top, nofun⟩
    · exact ⟨_, d.one, nofun⟩
    · exact ⟨_, d.two, nofun⟩
/-- _law_next -/
def FF_q_next : FF DS := fun ds s => match ds with
  | [.hnd _, .int m] => if 0 < m ∧ m < 2 ^ 64 ∧ s.c < 2 ^ 40 then some (.ok (.int (s.draw m)) false, s.step m) else none
  | _ => none
theorem len_q_next {ds : List D} {t : DS} {o : FOut × DS} (h : FF_q_next ds t = some o) : ds.length = 2 := by
  unfold FF_q_next at h
  split at h
  · rfl
  · cases h
theorem den_hnd {A : Dk} {ca : Str → Addr} {fv : Nat → V} {O : Addr → Prop} {H : Hp} {v : V} {n : Nat} (h : Den (Zdk A ca fv) O H v (.hnd n)) : v = .ref A.a := by
  generalize hd : D.hnd n = d at h
  cases h with
  | hnd k => rfl
  | ref e m c => subst hd; cases c
  | _ => cases hd
theorem dp_ints {K : PySem.W.Frag} {H : Hp} : ∀ ns : List Int, DpAll K H (ns.map V.int) (ns.map PyData.int)
  | [] => .nil
  | n :: r => .cons (.int n) (dp_ints r)
theorem lay_ints : ∀ ns : List Int, PyData.canLayAll0 (ns.map PyData.int) = true
  | [] => by simp [PyData.canLayAll0]
  | n :: r => by simp [PyData.canLayAll0, PyData.canLay0, lay_ints r]
theorem deep_ints : ∀ ns : List Int, PyData.depthAll (ns.map PyData.int) = 0
  | [] => by simp [PyData.depthAll]
  | n :: r => by simp [PyData.depthAll, PyData.depth, deep_ints r]
theorem shaped_ints (ns : List Int) : SeqAt.shaped (.list (ns.map PyData.int)) = true := by
  have h1 := lay_ints ns
  have h2 := deep_ints ns
  unfold SeqAt.shaped
  simp [PyData.canLay0, PyData.depth, h1, h2]
theorem eqv_nil (ns : List Int) : PyData.eqv (.list (ns.map PyData.int)) (.list []) = ns.isEmpty := by
  cases ns with
  | nil => simp [PyData.eqv, PyData.eqvAll]
  | cons n r => simp [PyData.eqv, PyData.eqvAll]
theorem upd_keep {H : Hp} {p : Addr} {o : HO} (h : H p = none) {b : Addr} {x : HO} (e : H b = some x) : upd H p o b = some x := by
  rw [upd_ne (ne_of_none e h)]
  exact e
theorem Dk.At.new {D : Dk} {H : Hp} {c : Nat} {big cells : List Int} {p : Addr} {o : HO} (d : D.At H c big cells) (h : H p = none) : D.At (upd H p o) c big cells :=
  ⟨upd_keep h d.top, upd_keep h d.one, upd_keep h d.two, d.pos, d.ne1, d.ne2, d.ne3⟩
/-- all stands but what the deck may change -/
def Keep (D : Dk) (H H' : Hp) : Prop := ∀ b x, H b = some x → b ≠ D.a → b ≠ D.l1 → H' b = some x
theorem Keep.rfl' {D : Dk} {H : Hp} : Keep D H H := fun _ _ e _ _ => e
theorem Keep.trans {D : Dk} {H H1 H2 : Hp} (h : Keep D H H1) (k : Keep D H1 H2) : Keep D H H2 := fun b x e n1 n2 => k b x (h b x e n1 n2) n1 n2
theorem Keep.new {D : Dk} {H : Hp} {p : Addr} {o : HO} (h : H p = none) : Keep D H (upd H p o) := fun _ _ e _ _ => upd_keep h e
theorem at0 {α : Type} {x : α} {xs : List α} : atI (x :: xs) 0 = some x := atI_nat (j := 0) rfl
theorem at1 {α : Type} {x y : α} {xs : List α} : atI (x :: y :: xs) 1 = some y := atI_nat (j := 1) rfl
theorem at2 {α : Type} {x y z : α} {xs : List α} : atI (x :: y :: z :: xs) 2 = some z := atI_nat (j := 2) rfl
theorem ix0 {n : Nat} (h : 0 < n) : ixN n 0 = some 0 := by
  unfold ixN
  rw [if_pos (Int.le_refl 0), if_pos (by omega)]
  rfl
theorem ix2 {n : Nat} (h : 2 < n) : ixN n 2 = some 2 := by
  unfold ixN
  rw [if_pos (by decide), if_pos (by omega)]
  rfl
theorem seq0 {n : Nat} (h : 0 < n) : seqIndex? 0 n = some 0 := by
  have := seqIndex_of (k := 0) (n := n) (by omega) (by omega)
  simpa using this
end FD

/-! F20: slices. -/
namespace FD
open PySem PySem.Spec PyProof.Rows L2
def partB (b : Bool) : D → Option (Option Int)
  | .non => if b then none else some none
  | .int i => if b then some (some i) else none
  | _ => none
def partF {T : Type} (b : Bool) (g : EF T) (k : Option Int → EF T) : EF T := bindF g fun r s => match peek s.1 r with
  | none => none
  | some d => match partB b d with
    | none => none
    | some i => k i s
def sl0 (n : Nat) (lo : Option Int) : Nat := HT.sIx n 0 lo
def sl1 (n : Nat) (hi : Option Int) : Nat := HT.sIx n n hi
/-- xs[lo:hi] -/
def cutL {A : Type} (xs : List A) (lo hi : Option Int) : List A := (xs.drop (sl0 xs.length lo)).take (sl1 xs.length hi - sl0 xs.length lo)
def sliceD : D → Option Int → Option Int → Option (D × Bool)
  | .lst ds, lo, hi => some (.lst (cutL ds lo hi), true)
  | .tup ds, lo, hi => some (.tup (cutL ds lo hi), false)
  | _, _, _ => none
def slF {T : Type} (bl bh : Bool) (f g h : EF T) : EF T := bindF f fun ra => partF bl g fun lo => partF bh h fun hi => doneF fun τ => match peek τ (hold ra) with
  | some x => sliceD x lo hi
  | none => none
/-- a part of a slice, by data -/
structure PD {Z : Wd} (X : Cx) (C : Fx Z) (b : Bool) (e : Option Expr) (f : EF Z.T) : Prop where
  ex : ∃ tl, PO X e tl ∧ ∀ σ H (Q : Option Int → Hp → Prop), tF C f σ H (fun x H1 => ∃ i, (if b then ∃ n, x = .int n ∧ i = some n else x = .non ∧ i = none) ∧ Q i H1) → tl σ H Q
section
variable {Z : Wd} {C : Fx Z} {X : Cx} {e a b : Expr} {f g h : EF Z.T} {pos p2 : Pos} {lo hi : Option Expr}
theorem pd_no : PD (Z := Z) X C false none (conF .non) := ⟨_, po_none, fun σ H Q q => by
  obtain ⟨ow, τ, t, o, s', R, h0, e, h⟩ := q
  cases e
  obtain ⟨i, h1, h2⟩ := h ow .non H R ⟨h0, .non⟩ .refl
  simp only [Bool.false_eq_true, if_false, true_and] at h1
  subst h1
  exact h2⟩
theorem pd_some (h : PE X e (tF C f)) : PD X C true (some e) f := ⟨_, po_some h, fun σ H Q q => tF_mono q fun x H1 ⟨i, h1, h2⟩ => by
  simp only [if_true] at h1
  obtain ⟨n, rfl, rfl⟩ := h1
  exact ⟨n, rfl, h2⟩⟩
theorem Kn.part {ow : Nat → Option Addr} {τ : List Sl} {t : Z.T} {σ : L2.St} {H : Hp} {Q : VK} {bb : Bool} {k : Option Int → EF Z.T} (h : Kn C (partF bb g k) ow τ t σ H Q) (R : C.Rel ow τ t σ H) (h0 : ow 0 = none) :
    FD.tF C g σ H (fun x H1 => ∃ i, (if bb then ∃ n, x = .int n ∧ i = some n else x = .non ∧ i = none) ∧ ∃ ow1 τ1 t1, C.Rel ow1 τ1 t1 σ H1 ∧ ow1 0 = none ∧ Kn C (k i) ow1 τ1 t1 σ H1 Q ∧ Ext (C.Hid ow) H (C.Hid ow1) H1) := by
  unfold partF at h
  refine tF_mono (h.bind R h0) fun x H1 ⟨ow1, τ1, t1, r, R1, r1, ⟨o, s', e, hq⟩, x1⟩ => ?_
  cases p1 : FD.peek τ1 r with
  | none => simp only [p1] at e; cases e
  | some d =>
    cases p2 : partB bb d with
    | none => simp only [p1, p2] at e; cases e
    | some i =>
      simp only [p1, p2] at e
      obtain ⟨ow2, R2, z2, r2, x2⟩ := r1.hold R1
      refine ⟨i, ?_, ow2, τ1, t1, R2, z2, ⟨o, s', e, hq.from x2⟩, x1.trans x2⟩
      have sh := r1.peek R1 p1
      unfold partB at p2
      split at p2
      · cases bb
        · cases p2
          exact ⟨sh.non, rfl⟩
        · cases p2
      · cases bb
        · cases p2
        · cases p2
          exact ⟨_, sh.int, rfl⟩
      · cases p2
theorem DenA.cut {O : Addr → Prop} {H : Hp} {xs : List V} {ds : List D} (c : DenA Z O H xs ds) (l u : Option Int) : DenA Z O H (cutV xs l u) (cutL ds l u) := by
  unfold cutV cutL sl0 sl1
  rw [c.len]
  exact (c.drop _).take _
theorem cutL_whole {A : Type} (xs : List A) (l u : Option Int) (h : HT.sIx xs.length 0 l = 0 ∧ HT.sIx xs.length xs.length u = xs.length) : cutL xs l u = xs := by
  unfold cutL sl0 sl1
  rw [h.1, h.2]
  simp
theorem cut_of {x : V} {l u : Option Int} {H : Hp} {Q : VK} {O : Addr → Prop} {d : D} {z : D × Bool} (hO : ∀ p, H p = none → ¬ O p) (sx : Shows Z O H x d) (e : sliceD d l u = some z) (q : ∀ v H', Gets Z O H v H' z → Q v H') :
    rSlL X.K x l u H Q ∨ rSlA X.K x l u H Q := by
  unfold sliceD at e
  split at e
  · cases e
    obtain ⟨a, xs, rfl, h1, c1⟩ := sx.lst
    exact .inl ⟨a, xs, rfl, SqL.of h1, fun p hp => q _ _ (.lst hp (c1.cut l u))⟩
  · cases e
    obtain ⟨a, xs, rfl, h1, c1, n⟩ := sx.tup
    refine .inr ⟨a, xs, rfl, SqT.of h1, fun w => q _ _ (.same ?_), fun _ p hp => q _ _ (.tup hO hp (c1.cut l u))⟩
    rw [cutL_whole _ l u (by rw [← c1.len]; exact w)]
    exact .ref h1 n (.tup c1)
  · cases e
theorem sl_of {bl bh : Bool} (hl : PD X C bl lo g) (hh : PD X C bh hi h) : ∃ tl th, PO X lo tl ∧ PO X hi th ∧ ∀ σ H Q, tF C (slF bl bh f g h) σ H Q → tSl (fun x l u H Q => rSlL X.K x l u H Q ∨ rSlA X.K x l u H Q) (tF C f) tl th σ H Q := by
  obtain ⟨tl, pl, kl⟩ := hl.ex
  obtain ⟨th, ph, kh⟩ := hh.ex
  refine ⟨tl, th, pl, ph, fun σ H Q q => ?_⟩
  obtain ⟨ow, τ, t, R, h0, q⟩ := q.at_
  refine tF_mono (q.bind R h0) fun x H1 ⟨ow1, τ1, t1, ra, R1, r1, h1, _⟩ => ?_
  obtain ⟨ow1', R1', z1, r1', x1⟩ := r1.hold R1
  refine kl σ H1 _ (tF_mono (Kn.part (h1.from x1) R1' z1) fun y H2 ⟨i, hi, ow2, τ2, t2, R2, z2, h2, x2⟩ => ⟨i, hi, ?_⟩)
  refine kh σ H2 _ (tF_mono (Kn.part h2 R2 z2) fun y H3 ⟨j, hj, ow3, τ3, t3, R3, z3, h3, x3⟩ => ⟨j, hj, ?_⟩)
  obtain ⟨z, e, k⟩ := h3.done R3 z3
  cases pa : peek τ3 (hold ra) with
  | none => simp only [pa] at e; cases e
  | some dx =>
    simp only [pa] at e
    exact cut_of (fun p hp => R3.nohid hp) (r1'.later R3 (x2.trans x3) pa) e k
theorem ev_slice {bl bh : Bool} (he : PE X a (tF C f)) (hl : PD X C bl lo g) (hh : PD X C bh hi h) : PE X (.Subscript a (.Slice lo hi none p2) pos) (tF C (slF bl bh f g h)) := by
  obtain ⟨tl, th, pl, ph, k⟩ := sl_of (f := f) hl hh
  exact ⟨fun pins s σ H Q I q => (pe_slice (SlR.or sl_list sl_tupA) he pl ph).run pins s σ H Q I (k σ H Q q)⟩
end
end FD

/-! F21: [::-1] of lists and tuples. -/
namespace FD
open PySem PySem.Spec PyProof.Rows L2 HT
section
variable {prog : Program} {w : World} {A : Around} {E : Value → Shared → Prop} {s : Shared}
end
def revD : D → Option (D × Bool)
  | .lst ds => some (.lst ds.reverse, true)
  | .tup ds => some (.tup ds.reverse, false)
  | _ => none
def revF {T : Type} (f : EF T) : EF T := unF revD f
end FD

/-! F22: running functions of data by simp: each step waits for the one before. -/
namespace FD
open PySem PySem.Spec PyProof.Rows L2
section
variable {T : Type}
/-! ### results -/
def pkS : Option Sl → Option D
  | some (.v d) => some d
  | some (.o d) => some d
  | _ => none
def gvS (i : Nat) (τ : List Sl) : Option Sl → Option (D × List Sl)
  | some (.v d) => some (d, τ)
  | some (.o d) => some (d, τ.set i (.v d))
  | _ => none
def gvB (d : D) : Option (List D × List Sl) → Option (List D × List Sl)
  | some (ds, τ) => some (d :: ds, τ)
  | none => none
def gvA (rs : List Res) : Option (D × List Sl) → Option (List D × List Sl)
  | some (d, τ) => gvB d (giveAll τ rs)
  | none => none
def pkB : Option D → Option (List D) → Option (List D)
  | some d, some ds => some (d :: ds)
  | _, _ => none
theorem q_hold_d {d : D} : hold (.d d) = .d d := (rfl)
theorem q_hold_f {d : D} : hold (.f d) = .d d := (rfl)
theorem q_hold_s {i : Nat} : hold (.s i) = .s i := (rfl)
theorem q_peek_d {τ : List Sl} {d : D} : peek τ (.d d) = some d := (rfl)
theorem q_peek_f {τ : List Sl} {d : D} : peek τ (.f d) = some d := (rfl)
theorem q_peek_s {τ : List Sl} {i : Nat} : peek τ (.s i) = pkS τ[i]? := by
  unfold peek pkS
  rfl
theorem q_pkS_v {d : D} : pkS (some (.v d)) = some d := (rfl)
theorem q_pkS_o {d : D} : pkS (some (.o d)) = some d := (rfl)
theorem q_give_d {τ : List Sl} {d : D} : give τ (.d d) = some (d, τ) := (rfl)
theorem q_give_f {τ : List Sl} {d : D} : give τ (.f d) = some (d, τ) := (rfl)
theorem q_give_s {τ : List Sl} {i : Nat} : give τ (.s i) = gvS i τ τ[i]? := by
  unfold give gvS
  rfl
theorem q_gvS_v {i : Nat} {τ : List Sl} {d : D} : gvS i τ (some (.v d)) = some (d, τ) := (rfl)
theorem q_gvS_o {i : Nat} {τ : List Sl} {d : D} : gvS i τ (some (.o d)) = some (d, τ.set i (.v d)) := (rfl)
theorem q_giveAll_n {τ : List Sl} : giveAll τ [] = some ([], τ) := (rfl)
theorem q_giveAll_c {τ : List Sl} {r : Res} {rs : List Res} : giveAll τ (r :: rs) = gvA rs (give τ r) := by
  unfold giveAll
  cases give τ r with
  | none => rfl
  | some z =>
    unfold gvA
    simp only
    cases giveAll z.2 rs with
    | none => rfl
    | some w => rfl
theorem q_gvA {rs : List Res} {d : D} {τ : List Sl} : gvA rs (some (d, τ)) = gvB d (giveAll τ rs) := (rfl)
theorem q_gvB {d : D} {ds : List D} {τ : List Sl} : gvB d (some (ds, τ)) = some (d :: ds, τ) := (rfl)
theorem q_peekAll_n {τ : List Sl} : peekAll τ [] = some [] := (rfl)
theorem q_peekAll_c {τ : List Sl} {r : Res} {rs : List Res} : peekAll τ (r :: rs) = pkB (peek τ r) (peekAll τ rs) := by
  show (match peek τ r, peekAll τ rs with
    | some d, some ds => some (d :: ds)
    | _, _ => none) = _
  cases peek τ r with
  | none => rfl
  | some d =>
    cases peekAll τ rs with
    | none => rfl
    | some ds => rfl
theorem q_pkB {d : D} {ds : List D} : pkB (some d) (some ds) = some (d :: ds) := (rfl)
theorem q_resOf_t {d : D} : resOf (d, true) = .f d := (rfl)
theorem q_resOf_f {d : D} : resOf (d, false) = .d d := (rfl)
/-! ### expressions -/
def varK (i : Nat) (s : Sg T) : Option Sl → Option (Out × Sg T)
  | some (.v _) => some (.ok (.s i), s)
  | some (.o _) => some (.ok (.s i), s)
  | _ => none
theorem q_var {i : Nat} {τ : List Sl} {t : T} : varF i (τ, t) = varK i (τ, t) τ[i]? := by
  unfold varF varK
  rfl
theorem q_varK_v {i : Nat} {s : Sg T} {d : D} : varK i s (some (.v d)) = some (.ok (.s i), s) := (rfl)
theorem q_varK_o {i : Nat} {s : Sg T} {d : D} : varK i s (some (.o d)) = some (.ok (.s i), s) := (rfl)
theorem q_con {d : D} {s : Sg T} : conF d s = some (.ok (.d d), s) := (rfl)
def bnd (k : Res → EF T) : Option (Out × Sg T) → Option (Out × Sg T)
  | none => none
  | some (.ex c fs, s1) => some (.ex c fs, s1)
  | some (.ok r, s1) => k r s1
def dnO (s : Sg T) : Option (D × Bool) → Option (Out × Sg T)
  | none => none
  | some z => some (.ok (resOf z), s)
def op2 (op : D → D → Option (D × Bool)) : Option D → Option D → Option (D × Bool)
  | some x, some y => op x y
  | _, _ => none
def op1 (op : D → Option (D × Bool)) : Option D → Option (D × Bool)
  | some x => op x
  | _ => none
theorem q_bnd {k : Res → EF T} {r : Res} {s : Sg T} : bnd k (some (.ok r, s)) = k r s := (rfl)
theorem q_dnO {s : Sg T} {z : D × Bool} : dnO s (some z) = some (.ok (resOf z), s) := (rfl)
theorem q_op2 {op : D → D → Option (D × Bool)} {x y : D} : op2 op (some x) (some y) = op x y := (rfl)
theorem q_op1 {op : D → Option (D × Bool)} {x : D} : op1 op (some x) = op x := (rfl)
def binK2 (op : D → D → Option (D × Bool)) (ra rb : Res) : EF T := fun s => dnO s (op2 op (peek s.1 (hold ra)) (peek s.1 (hold rb)))
def binK (op : D → D → Option (D × Bool)) (fb : EF T) (ra : Res) : EF T := fun s => bnd (binK2 op ra) (fb s)
theorem q_bin {op : D → D → Option (D × Bool)} {fa fb : EF T} {s : Sg T} : binF op fa fb s = bnd (binK op fb) (fa s) := (rfl)
theorem q_binK {op : D → D → Option (D × Bool)} {fb : EF T} {ra : Res} {s : Sg T} : binK op fb ra s = bnd (binK2 op ra) (fb s) := (rfl)
theorem q_binK2 {op : D → D → Option (D × Bool)} {ra rb : Res} {s : Sg T} : binK2 op ra rb s = dnO s (op2 op (peek s.1 (hold ra)) (peek s.1 (hold rb))) := (rfl)
def unK (op : D → Option (D × Bool)) (ra : Res) : EF T := fun s => dnO s (op1 op (peek s.1 (hold ra)))
theorem q_un {op : D → Option (D × Bool)} {fa : EF T} {s : Sg T} : unF op fa s = bnd (unK op) (fa s) := by
  unfold unF bindF doneF bnd unK dnO op1
  rcases fa s with _ | ⟨r | _, s1⟩
  · rfl
  · simp only
    cases peek s1.1 (hold r) <;> rfl
  · rfl
theorem q_unK {op : D → Option (D × Bool)} {ra : Res} {s : Sg T} : unK op ra s = dnO s (op1 op (peek s.1 (hold ra))) := (rfl)
def brB (g h : EF T) (s : Sg T) : Option D → Option (Out × Sg T)
  | some (.bl true) => g s
  | some (.bl false) => h s
  | _ => none
def brK (g h : EF T) (r : Res) : EF T := fun s => brB g h s (peek s.1 (hold r))
theorem q_branch {f g h : EF T} {s : Sg T} : branchF f g h s = bnd (brK g h) (f s) := (rfl)
theorem q_brK {g h : EF T} {r : Res} {s : Sg T} : brK g h r s = brB g h s (peek s.1 (hold r)) := (rfl)
theorem q_brB_t {g h : EF T} {s : Sg T} : brB g h s (some (.bl true)) = g s := (rfl)
theorem q_brB_f {g h : EF T} {s : Sg T} : brB g h s (some (.bl false)) = h s := (rfl)
theorem q_and {f g : EF T} {s : Sg T} : andF f g s = bnd (brK g (conF (.bl false))) (f s) := (rfl)
theorem q_or {f g : EF T} {s : Sg T} : orF f g s = bnd (brK (conF (.bl true)) g) (f s) := (rfl)
theorem q_not {f : EF T} {s : Sg T} : notF f s = bnd (brK (conF (.bl false)) (conF (.bl true))) (f s) := (rfl)
/-! ### arguments -/
def cnsA (r : Res) : Option (OutA × Sg T) → Option (OutA × Sg T)
  | none => none
  | some (.ex c fs, s2) => some (.ex c fs, s2)
  | some (.ok rs, s2) => some (.ok (hold r :: rs), s2)
def cnsK (g : AF T) : Option (Out × Sg T) → Option (OutA × Sg T)
  | none => none
  | some (.ex c fs, s1) => some (.ex c fs, s1)
  | some (.ok r, s1) => cnsA r (g s1)
theorem q_nilA {s : Sg T} : nilA s = some (.ok [], s) := (rfl)
theorem q_consA {f : EF T} {g : AF T} {s : Sg T} : consA f g s = cnsK g (f s) := by
  unfold consA cnsK cnsA
  rcases f s with _ | ⟨_ | _, _⟩ <;> rfl
theorem q_cnsK {g : AF T} {r : Res} {s : Sg T} : cnsK g (some (.ok r, s)) = cnsA r (g s) := (rfl)
theorem q_cnsA {r : Res} {rs : List Res} {s : Sg T} : cnsA r (some (.ok rs, s)) = some (.ok (hold r :: rs), s) := (rfl)
def abnd (k : List Res → EF T) : Option (OutA × Sg T) → Option (Out × Sg T)
  | none => none
  | some (.ex c fs, s1) => some (.ex c fs, s1)
  | some (.ok r, s1) => k r s1
theorem q_abnd {k : List Res → EF T} {r : List Res} {s : Sg T} : abnd k (some (.ok r, s)) = k r s := (rfl)
def dspO (mk : List D → D) (fr : Bool) (t : T) : Option (List D × List Sl) → Option (Out × Sg T)
  | none => none
  | some (ds, τ) => if ds.length ≤ LEN then some (.ok (resOf (mk ds, fr)), (τ, t)) else none
def dspK (mk : List D → D) (fr : Bool) (rs : List Res) : EF T := fun s => dspO mk fr s.2 (giveAll s.1 rs)
theorem q_disp {mk : List D → D} {fr : Bool} {g : AF T} {s : Sg T} : dispF mk fr g s = abnd (dspK mk fr) (g s) := by
  unfold dispF abnd dspK dspO
  rcases g s with _ | ⟨_ | _, _⟩ <;> rfl
theorem q_dspK {mk : List D → D} {fr : Bool} {rs : List Res} {s : Sg T} : dspK mk fr rs s = dspO mk fr s.2 (giveAll s.1 rs) := (rfl)
theorem q_dspO {mk : List D → D} {fr : Bool} {ds : List D} {τ : List Sl} {t : T} : dspO mk fr t (some (ds, τ)) = if ds.length ≤ LEN then some (.ok (resOf (mk ds, fr)), (τ, t)) else none := (rfl)
theorem q_tup {g : AF T} {s : Sg T} : tupF g s = abnd (dspK .tup false) (g s) := q_disp
theorem q_lst {g : AF T} {s : Sg T} : lstF g s = abnd (dspK .lst true) (g s) := q_disp
def opA (op : List D → Option (D × Bool)) : Option (List D) → Option (D × Bool)
  | some ds => op ds
  | none => none
theorem q_opA {op : List D → Option (D × Bool)} {ds : List D} : opA op (some ds) = op ds := (rfl)
def clK (op : List D → Option (D × Bool)) (rs : List Res) : EF T := fun s => dnO s (opA op (peekAll s.1 rs))
theorem q_call {op : List D → Option (D × Bool)} {g : AF T} {s : Sg T} : callF op g s = abnd (clK op) (g s) := by
  unfold callF abnd clK dnO opA
  rcases g s with _ | ⟨rs | _, s1⟩
  · rfl
  · simp only
    cases peekAll s1.1 rs <;> rfl
  · rfl
theorem q_clK {op : List D → Option (D × Bool)} {rs : List Res} {s : Sg T} : clK op rs s = dnO s (opA op (peekAll s.1 rs)) := (rfl)
def fOut (τ : List Sl) : Option (FOut × T) → Option (Out × Sg T)
  | none => none
  | some (.ok d fr, t) => some (.ok (resOf (d, fr)), (τ, t))
  | some (.ex c fs, t) => some (.ex c fs, (τ, t))
def ucO (F : FF T) (t : T) : Option (List D × List Sl) → Option (Out × Sg T)
  | none => none
  | some (ds, τ) => fOut τ (F ds t)
def ucK (F : FF T) (rs : List Res) : EF T := fun s => ucO F s.2 (giveAll s.1 rs)
theorem q_ucall {F : FF T} {g : AF T} {s : Sg T} : ucallF F g s = abnd (ucK F) (g s) := by
  unfold ucallF abnd ucK ucO fOut
  rcases g s with _ | ⟨_ | _, _⟩ <;> rfl
theorem q_ucK {F : FF T} {rs : List Res} {s : Sg T} : ucK F rs s = ucO F s.2 (giveAll s.1 rs) := (rfl)
theorem q_ucO {F : FF T} {t : T} {ds : List D} {τ : List Sl} : ucO F t (some (ds, τ)) = fOut τ (F ds t) := (rfl)
theorem q_fOut {τ : List Sl} {d : D} {fr : Bool} {t : T} : fOut τ (some (.ok d fr, t)) = some (.ok (resOf (d, fr)), (τ, t)) := (rfl)
/-! ### statements -/
def sqO (g : SF T) : Option (SOut × Sg T) → Option (SOut × Sg T)
  | some (.nx, s1) => g s1
  | r => r
theorem q_seq {f g : SF T} {s : Sg T} : seqF f g s = sqO g (f s) := (rfl)
theorem q_sqO_nx {g : SF T} {s : Sg T} : sqO g (some (.nx, s)) = g s := (rfl)
theorem q_sqO_rt {g : SF T} {s : Sg T} {r : Res} : sqO g (some (.rt r, s)) = some (.rt r, s) := (rfl)
theorem q_sqO_bk {g : SF T} {s : Sg T} : sqO g (some (.bk, s)) = some (.bk, s) := (rfl)
theorem q_sqO_ct {g : SF T} {s : Sg T} : sqO g (some (.ct, s)) = some (.ct, s) := (rfl)
theorem q_sqO_ex {g : SF T} {s : Sg T} {c : Str} {fs : List (Str × D)} : sqO g (some (.ex c fs, s)) = some (.ex c fs, s) := (rfl)
theorem q_nx {s : Sg T} : nxF s = some (.nx, s) := (rfl)
theorem q_bk {s : Sg T} : bkF s = some (.bk, s) := (rfl)
theorem q_ct {s : Sg T} : ctF s = some (.ct, s) := (rfl)
def sbnd (k : Res → SF T) : Option (Out × Sg T) → Option (SOut × Sg T)
  | none => none
  | some (.ex c fs, s1) => some (.ex c fs, s1)
  | some (.ok r, s1) => k r s1
theorem q_sbnd {k : Res → SF T} {r : Res} {s : Sg T} : sbnd k (some (.ok r, s)) = k r s := (rfl)
def drK (r : Res) : SF T := fun s => some (.nx, s)
theorem q_drop {f : EF T} {s : Sg T} : dropF f s = sbnd drK (f s) := (rfl)
theorem q_drK {r : Res} {s : Sg T} : drK r s = some (.nx, s) := (rfl)
def rtS (i : Nat) (s : Sg T) : Option Sl → Option (SOut × Sg T)
  | some (.v d) => some (.rt (.d d), s)
  | some (.o d) => some (.rt (.f d), (s.1.set i .no, s.2))
  | _ => none
def rtK (r : Res) : SF T := fun s => match r with
  | .s i => rtS i s s.1[i]?
  | r => some (.rt r, s)
theorem q_ret {f : EF T} {s : Sg T} : retF f s = sbnd rtK (f s) := by
  unfold retF sbind sbnd rtK rtS
  rcases f s with _ | ⟨(_ | _ | _) | _, _⟩ <;> rfl
theorem q_rtK_d {d : D} {s : Sg T} : rtK (.d d) s = some (.rt (.d d), s) := (rfl)
theorem q_rtK_f {d : D} {s : Sg T} : rtK (.f d) s = some (.rt (.f d), s) := (rfl)
theorem q_rtK_s {i : Nat} {s : Sg T} : rtK (.s i) s = rtS i s s.1[i]? := (rfl)
theorem q_rtS_v {i : Nat} {s : Sg T} {d : D} : rtS i s (some (.v d)) = some (.rt (.d d), s) := (rfl)
theorem q_rtS_o {i : Nat} {s : Sg T} {d : D} : rtS i s (some (.o d)) = some (.rt (.f d), (s.1.set i .no, s.2)) := (rfl)
theorem q_retN {s : Sg T} : retNF s = some (.rt (.d .non), s) := (rfl)
def ifB (g h : SF T) (s : Sg T) : Option D → Option (SOut × Sg T)
  | some (.bl true) => g s
  | some (.bl false) => h s
  | _ => none
def ifK (g h : SF T) (r : Res) : SF T := fun s => ifB g h s (peek s.1 (hold r))
theorem q_if {f : EF T} {g h : SF T} {s : Sg T} : ifF f g h s = sbnd (ifK g h) (f s) := (rfl)
theorem q_ifK {g h : SF T} {r : Res} {s : Sg T} : ifK g h r s = ifB g h s (peek s.1 (hold r)) := (rfl)
theorem q_ifB_t {g h : SF T} {s : Sg T} : ifB g h s (some (.bl true)) = g s := (rfl)
theorem q_ifB_f {g h : SF T} {s : Sg T} : ifB g h s (some (.bl false)) = h s := (rfl)
def stN (t : T) : Option (List Sl) → Option (SOut × Sg T)
  | none => none
  | some τ => some (.nx, (τ, t))
theorem q_stN {t : T} {τ : List Sl} : stN t (some τ) = some (.nx, (τ, t)) := (rfl)
def stK (i : Nat) (r : Res) : SF T := fun s => stN s.2 (storeAt i s.1 r)
theorem q_set {i : Nat} {f : EF T} {s : Sg T} : setF i f s = sbnd (stK i) (f s) := (rfl)
theorem q_stK {i : Nat} {r : Res} {s : Sg T} : stK i r s = stN s.2 (storeAt i s.1 r) := (rfl)
def stS (i j : Nat) (τ : List Sl) : Option Sl → Option (List Sl)
  | some (.v d) => some (τ.set i (.v d))
  | some (.o d) => some ((τ.set j (.v d)).set i (.v d))
  | _ => none
theorem q_store_d {i : Nat} {τ : List Sl} {d : D} : storeAt i τ (.d d) = some (τ.set i (.v d)) := (rfl)
theorem q_store_f {i : Nat} {τ : List Sl} {d : D} : storeAt i τ (.f d) = some (τ.set i (.o d)) := (rfl)
theorem q_store_s {i j : Nat} {τ : List Sl} : storeAt i τ (.s j) = stS i j τ τ[j]? := by
  show (match give τ (.s j) with
    | none => none
    | some (d, τ1) => some (τ1.set i (.v d))) = _
  rw [q_give_s]
  unfold gvS stS
  rcases τ[j]? with _ | (_ | _ | _) <;> rfl
theorem q_stS_v {i j : Nat} {τ : List Sl} {d : D} : stS i j τ (some (.v d)) = some (τ.set i (.v d)) := (rfl)
theorem q_stS_o {i j : Nat} {τ : List Sl} {d : D} : stS i j τ (some (.o d)) = some ((τ.set j (.v d)).set i (.v d)) := (rfl)
def asO (g : GF) (t : T) : Option (D × List Sl) → Option (SOut × Sg T)
  | none => none
  | some (d, τ) => stN t (g d τ)
def asK (g : GF) (r : Res) : SF T := fun s => asO g s.2 (give s.1 r)
theorem q_asg {g : GF} {f : EF T} {s : Sg T} : asgF g f s = sbnd (asK g) (f s) := by
  unfold asgF sbind sbnd asK asO stN
  rcases f s with _ | ⟨_ | _, _⟩ <;> rfl
theorem q_asK {g : GF} {r : Res} {s : Sg T} : asK g r s = asO g s.2 (give s.1 r) := (rfl)
theorem q_asO {g : GF} {t : T} {d : D} {τ : List Sl} : asO g t (some (d, τ)) = stN t (g d τ) := (rfl)
def paN (i : Nat) (d : D) (t : T) : Option (List Sl) → Option (SOut × Sg T)
  | none => none
  | some τ => some (.nx, (τ.set i (.v d), t))
def paK2 (i j : Nat) (d : D) (r : Res) : SF T := fun s => paN i d s.2 (storeAt j s.1 r)
def paO (i j : Nat) (g : EF T) (t : T) : Option (D × List Sl) → Option (SOut × Sg T)
  | none => none
  | some (d, τ) => sbnd (paK2 i j d) (g (τ, t))
def paK (i j : Nat) (g : EF T) (r : Res) : SF T := fun s => paO i j g s.2 (give s.1 r)
theorem q_par {i j : Nat} {f g : EF T} {s : Sg T} : parF i j f g s = sbnd (paK i j g) (f s) := by
  unfold parF sbnd paK paO paK2 paN sbind sbnd
  rcases f s with _ | ⟨_ | _, _⟩ <;> rfl
theorem q_paK {i j : Nat} {g : EF T} {r : Res} {s : Sg T} : paK i j g r s = paO i j g s.2 (give s.1 r) := (rfl)
theorem q_paO {i j : Nat} {g : EF T} {t : T} {d : D} {τ : List Sl} : paO i j g t (some (d, τ)) = sbnd (paK2 i j d) (g (τ, t)) := (rfl)
theorem q_paK2 {i j : Nat} {d : D} {r : Res} {s : Sg T} : paK2 i j d r s = paN i d s.2 (storeAt j s.1 r) := (rfl)
theorem q_paN {i : Nat} {d : D} {t : T} {τ : List Sl} : paN i d t (some τ) = some (.nx, (τ.set i (.v d), t)) := (rfl)
def pnN (j : Nat) (t : T) : Option (List Sl) → Option (SOut × Sg T)
  | none => none
  | some τ => some (.nx, (τ.set j (.o (.lst [])), t))
def pnK (i j : Nat) (r : Res) : SF T := fun s => pnN j s.2 (storeAt i s.1 r)
theorem q_parN {i j : Nat} {f : EF T} {s : Sg T} : parNF i j f s = sbnd (pnK i j) (f s) := (rfl)
theorem q_pnK {i j : Nat} {r : Res} {s : Sg T} : pnK i j r s = pnN j s.2 (storeAt i s.1 r) := (rfl)
theorem q_pnN {j : Nat} {t : T} {τ : List Sl} : pnN j t (some τ) = some (.nx, (τ.set j (.o (.lst [])), t)) := (rfl)
/-! ### own lists changed -/
def muX (i : Nat) (op : List D → List D → Option (List D × D)) (ds : List D) (τ : List Sl) (t : T) : Option Sl → Option (Out × Sg T)
  | some (.o (.lst xs)) => (op xs ds).map fun z => (.ok (.d z.2), (τ.set i (.o (.lst z.1)), t))
  | _ => none
def muO (i : Nat) (op : List D → List D → Option (List D × D)) (t : T) : Option (List D × List Sl) → Option (Out × Sg T)
  | none => none
  | some (ds, τ) => muX i op ds τ t τ[i]?
def muK (i : Nat) (op : List D → List D → Option (List D × D)) (rs : List Res) : EF T := fun s => muO i op s.2 (giveAll s.1 rs)
def muA (i : Nat) (op : List D → List D → Option (List D × D)) (g : AF T) (s : Sg T) : Option Sl → Option (Out × Sg T)
  | some (.o (.lst _)) => abnd (muK i op) (g s)
  | _ => none
theorem q_mut {i : Nat} {op : List D → List D → Option (List D × D)} {g : AF T} {s : Sg T} : mutF i op g s = muA i op g s s.1[i]? := by
  unfold mutF muA
  generalize s.1[i]? = z
  rcases z with _ | (_ | _ | d) <;> try rfl
  cases d <;> try rfl
  all_goals
    unfold abnd muK muO muX
    rcases g s with _ | ⟨rs | _, s1⟩ <;> try rfl
  all_goals
    cases e : giveAll s1.1 rs with
    | none => simp only [e]
    | some w =>
      simp only [e]
      generalize w.2[i]? = y
      rcases y with _ | (_ | _ | d2) <;> try rfl
      cases d2 <;> try rfl
      all_goals
        rename_i xs
        dsimp only
        cases op xs w.1 <;> rfl
theorem q_muA {i : Nat} {op : List D → List D → Option (List D × D)} {g : AF T} {s : Sg T} {xs : List D} : muA i op g s (some (.o (.lst xs))) = abnd (muK i op) (g s) := (rfl)
theorem q_muK {i : Nat} {op : List D → List D → Option (List D × D)} {rs : List Res} {s : Sg T} : muK i op rs s = muO i op s.2 (giveAll s.1 rs) := (rfl)
theorem q_muO {i : Nat} {op : List D → List D → Option (List D × D)} {t : T} {ds : List D} {τ : List Sl} : muO i op t (some (ds, τ)) = muX i op ds τ t τ[i]? := (rfl)
theorem q_muX {i : Nat} {op : List D → List D → Option (List D × D)} {ds : List D} {τ : List Sl} {t : T} {xs : List D} : muX i op ds τ t (some (.o (.lst xs))) = (op xs ds).map fun z => (.ok (.d z.2), (τ.set i (.o (.lst z.1)), t)) := (rfl)
/-! ### items set, +=, slices -/
def putJ (i : Nat) (d : D) (xs : List D) (τ : List Sl) : Option Nat → Option (List Sl)
  | none => none
  | some j => some (τ.set i (.o (.lst (xs.set j d))))
def putS (i : Nat) (d : D) (n : Int) (τ : List Sl) : Option Sl → Option (List Sl)
  | some (.o (.lst xs)) => putJ i d xs τ (ixN xs.length n)
  | _ => none
theorem q_putAt {i : Nat} {τ : List Sl} {n : Int} {d : D} : putAt i τ (.int n) d = putS i d n τ τ[i]? := by
  unfold putAt putS putJ
  rcases τ[i]? with _ | (_ | _ | (_ | _ | _ | _ | _ | _ | _ | _ | _ | _)) <;> rfl
theorem q_putS {i : Nat} {d : D} {n : Int} {τ : List Sl} {xs : List D} : putS i d n τ (some (.o (.lst xs))) = putJ i d xs τ (ixN xs.length n) := (rfl)
theorem q_putJ {i : Nat} {d : D} {xs : List D} {τ : List Sl} {j : Nat} : putJ i d xs τ (some j) = some (τ.set i (.o (.lst (xs.set j d)))) := (rfl)
def siP (i : Nat) (d : D) (s : Sg T) : Option D → Option (SOut × Sg T)
  | none => none
  | some k => stN s.2 (putAt i s.1 k d)
def siK2 (i : Nat) (d : D) (rk : Res) : SF T := fun s => siP i d s (peek s.1 (hold rk))
def siG (i : Nat) (fk : EF T) (d : D) (s : Sg T) : Option Sl → Option (SOut × Sg T)
  | some (.o (.lst _)) => sbnd (siK2 i d) (fk s)
  | _ => none
def siO (i : Nat) (fk : EF T) (t : T) : Option (D × List Sl) → Option (SOut × Sg T)
  | none => none
  | some (d, τ) => siG i fk d (τ, t) τ[i]?
def siK (i : Nat) (fk : EF T) (r : Res) : SF T := fun s => siO i fk s.2 (give s.1 r)
theorem q_setIx {i : Nat} {fk fe : EF T} {s : Sg T} : setIxF i fk fe s = sbnd (siK i fk) (fe s) := by
  unfold setIxF sbind sbnd siK siO siG siK2 siP stN
  rcases fe s with _ | ⟨r | _, s1⟩
  · rfl
  · simp only
    cases give s1.1 r with
    | none => rfl
    | some z =>
      simp only
      rcases z.2[i]? with _ | (_ | _ | (_ | _ | _ | _ | _ | _ | _ | _ | _ | _)) <;> try rfl
  · rfl
theorem q_siK {i : Nat} {fk : EF T} {r : Res} {s : Sg T} : siK i fk r s = siO i fk s.2 (give s.1 r) := (rfl)
theorem q_siO {i : Nat} {fk : EF T} {t : T} {d : D} {τ : List Sl} : siO i fk t (some (d, τ)) = siG i fk d (τ, t) τ[i]? := (rfl)
theorem q_siG {i : Nat} {fk : EF T} {d : D} {s : Sg T} {xs : List D} : siG i fk d s (some (.o (.lst xs))) = sbnd (siK2 i d) (fk s) := (rfl)
theorem q_siK2 {i : Nat} {d : D} {rk : Res} {s : Sg T} : siK2 i d rk s = siP i d s (peek s.1 (hold rk)) := (rfl)
theorem q_siP {i : Nat} {d k : D} {s : Sg T} : siP i d s (some k) = stN s.2 (putAt i s.1 k d) := (rfl)
def agO (i : Nat) (s : Sg T) : Option (D × Bool) → Option (SOut × Sg T)
  | some (z, false) => some (.nx, (s.1.set i (.v z), s.2))
  | _ => none
def agK (i : Nat) (op : D → D → Option (D × Bool)) (x : D) (r : Res) : SF T := fun s => agO i s (op1 (op x) (peek s.1 (hold r)))
def agS (i : Nat) (op : D → D → Option (D × Bool)) (f : EF T) (s : Sg T) : Option Sl → Option (SOut × Sg T)
  | some (.v x) => sbnd (agK i op x) (f s)
  | _ => none
theorem q_aug {i : Nat} {op : D → D → Option (D × Bool)} {f : EF T} {s : Sg T} : augF i op f s = agS i op f s s.1[i]? := by
  unfold augF agS
  rcases s.1[i]? with _ | (_ | x | _) <;> try rfl
  simp only [sbind, sbnd, agK, agO, op1]
  rcases f s with _ | ⟨r | _, s1⟩
  · rfl
  · simp only
    cases peek s1.1 (hold r) with
    | none => rfl
    | some y => first | rfl | (simp only; rcases op x y with _ | ⟨_, _ | _⟩ <;> rfl)
  · rfl
theorem q_agS {i : Nat} {op : D → D → Option (D × Bool)} {f : EF T} {s : Sg T} {x : D} : agS i op f s (some (.v x)) = sbnd (agK i op x) (f s) := (rfl)
theorem q_agK {i : Nat} {op : D → D → Option (D × Bool)} {x : D} {r : Res} {s : Sg T} : agK i op x r s = agO i s (op1 (op x) (peek s.1 (hold r))) := (rfl)
theorem q_agO {i : Nat} {s : Sg T} {z : D} : agO i s (some (z, false)) = some (.nx, (s.1.set i (.v z), s.2)) := (rfl)
def ptI (k : Option Int → EF T) (s : Sg T) : Option (Option Int) → Option (Out × Sg T)
  | none => none
  | some i => k i s
def ptD (b : Bool) : Option D → Option (Option Int)
  | none => none
  | some d => partB b d
def ptK (b : Bool) (k : Option Int → EF T) (r : Res) : EF T := fun s => ptI k s (ptD b (peek s.1 r))
def slP (ra : Res) (lo hi : Option Int) : EF T := fun s => dnO s (op1 (fun x => sliceD x lo hi) (peek s.1 (hold ra)))
def slH (bh : Bool) (h : EF T) (ra : Res) (lo : Option Int) : EF T := fun s => bnd (ptK bh (slP ra lo)) (h s)
def slL (bl bh : Bool) (g h : EF T) (ra : Res) : EF T := fun s => bnd (ptK bl (slH bh h ra)) (g s)
theorem part_eq {b : Bool} {g : EF T} {k k' : Option Int → EF T} (e : k = k') {s : Sg T} : partF b g k s = bnd (ptK b k') (g s) := by
  subst e
  unfold partF bindF bnd ptK ptD ptI
  rcases g s with _ | ⟨r | _, s1⟩
  · rfl
  · simp only
    cases peek s1.1 r with
    | none => rfl
    | some d => first | rfl | (simp only; cases partB b d <;> rfl)
  · rfl
theorem q_sl {bl bh : Bool} {f g h : EF T} {s : Sg T} : slF bl bh f g h s = bnd (slL bl bh g h) (f s) := by
  unfold slF bindF bnd
  rcases f s with _ | ⟨r | _, s1⟩
  · rfl
  · simp only
    refine part_eq (funext fun lo => funext fun s2 => ?_)
    refine part_eq (funext fun hi => funext fun s3 => ?_)
    unfold doneF slP dnO op1
    simp only
    cases peek s3.1 (hold r) <;> rfl
  · rfl
theorem q_slL {bl bh : Bool} {g h : EF T} {ra : Res} {s : Sg T} : slL bl bh g h ra s = bnd (ptK bl (slH bh h ra)) (g s) := (rfl)
theorem q_slH {bh : Bool} {h : EF T} {ra : Res} {lo : Option Int} {s : Sg T} : slH bh h ra lo s = bnd (ptK bh (slP ra lo)) (h s) := (rfl)
theorem q_slP {ra : Res} {lo hi : Option Int} {s : Sg T} : slP ra lo hi s = dnO s (op1 (fun x => sliceD x lo hi) (peek s.1 (hold ra))) := (rfl)
theorem q_ptK {b : Bool} {k : Option Int → EF T} {r : Res} {s : Sg T} : ptK b k r s = ptI k s (ptD b (peek s.1 r)) := (rfl)
theorem q_ptI {k : Option Int → EF T} {s : Sg T} {i : Option Int} : ptI k s (some i) = k i s := (rfl)
theorem q_ptD_n : ptD false (some .non) = some none := (rfl)
theorem q_ptD_i {i : Int} : ptD true (some (.int i)) = some (some i) := (rfl)
theorem q_slice_l {ds : List D} {lo hi : Option Int} : sliceD (.lst ds) lo hi = some (.lst (cutL ds lo hi), true) := (rfl)
theorem q_slice_t {ds : List D} {lo hi : Option Int} : sliceD (.tup ds) lo hi = some (.tup (cutL ds lo hi), false) := (rfl)
theorem q_rev {f : EF T} {s : Sg T} : revF f s = bnd (unK revD) (f s) := q_un
theorem q_rev_l {ds : List D} : revD (.lst ds) = some (.lst ds.reverse, true) := (rfl)
theorem q_rev_t {ds : List D} : revD (.tup ds) = some (.tup ds.reverse, false) := (rfl)
/-! ### loops -/
def frO (g : GF) (b : SF T) : Option (OutI × Sg T) → Option (SOut × Sg T)
  | none => none
  | some (.ex c fs, s1) => some (.ex c fs, s1)
  | some (.ok ds, s1) => forL g b ds s1
theorem q_for {it : IF T} {g : GF} {b : SF T} {s : Sg T} : forF it g b s = frO g b (it s) := by
  unfold forF frO
  rcases it s with _ | ⟨_ | _, _⟩ <;> rfl
theorem q_frO {g : GF} {b : SF T} {ds : List D} {s : Sg T} : frO g b (some (.ok ds, s)) = forL g b ds s := (rfl)
def itO (t : T) : Option (List D × List Sl) → Option (OutI × Sg T)
  | none => none
  | some (ds, τ) => some (.ok ds, (τ, t))
def itA (τ : List Sl) : Option (List D) → Option (List D × List Sl)
  | none => none
  | some ds => some (ds, τ)
def sqA : Option (D × List Sl) → Option (List D × List Sl)
  | none => none
  | some (d, τ) => itA τ (itemsD d)
def opI (op : List D → Option (List D)) : Option (List D × List Sl) → Option (List D × List Sl)
  | none => none
  | some (ds, τ) => itA τ (op ds)
def siB : Option (Out × Sg T) → Option (OutI × Sg T)
  | none => none
  | some (.ex c fs, s1) => some (.ex c fs, s1)
  | some (.ok r, s1) => itO s1.2 (sqA (give s1.1 r))
theorem q_seqI {f : EF T} {s : Sg T} : seqI f s = siB (f s) := by
  unfold seqI siB itO sqA itA
  rcases f s with _ | ⟨r | _, s1⟩
  · rfl
  · simp only
    cases give s1.1 r with
    | none => rfl
    | some z => simp only; cases itemsD z.1 <;> rfl
  · rfl
theorem q_siB {r : Res} {s : Sg T} : siB (some (.ok r, s)) = itO s.2 (sqA (give s.1 r)) := (rfl)
theorem q_sqA {d : D} {τ : List Sl} : sqA (some (d, τ)) = itA τ (itemsD d) := (rfl)
theorem q_itA {ds : List D} {τ : List Sl} : itA τ (some ds) = some (ds, τ) := (rfl)
theorem q_itO {ds : List D} {τ : List Sl} {t : T} : itO t (some (ds, τ)) = some (.ok ds, (τ, t)) := (rfl)
theorem q_items_l {ds : List D} : itemsD (.lst ds) = some ds := (rfl)
theorem q_items_t {ds : List D} : itemsD (.tup ds) = some ds := (rfl)
def ciB (op : List D → Option (List D)) : Option (OutA × Sg T) → Option (OutI × Sg T)
  | none => none
  | some (.ex c fs, s1) => some (.ex c fs, s1)
  | some (.ok rs, s1) => itO s1.2 (opI op (giveAll s1.1 rs))
theorem q_callI {op : List D → Option (List D)} {g : AF T} {s : Sg T} : callI op g s = ciB op (g s) := by
  unfold callI ciB itO opI itA
  rcases g s with _ | ⟨r | _, s1⟩
  · rfl
  · simp only
    cases giveAll s1.1 r with
    | none => rfl
    | some z => simp only; cases op z.1 <;> rfl
  · rfl
theorem q_ciB {op : List D → Option (List D)} {rs : List Res} {s : Sg T} : ciB op (some (.ok rs, s)) = itO s.2 (opI op (giveAll s.1 rs)) := (rfl)
theorem q_opI {op : List D → Option (List D)} {ds : List D} {τ : List Sl} : opI op (some (ds, τ)) = itA τ (op ds) := (rfl)
def lcR (τ : List Sl) : Option (List D × T) → Option (Out × Sg T)
  | none => none
  | some (out, t) => some (.ok (.f (.lst out)), (τ, t))
def lcO (sh vs : List Nat) (g : GF) (c e : EF T) : Option (OutI × Sg T) → Option (Out × Sg T)
  | none => none
  | some (.ex k fs, s1) => some (.ex k fs, s1)
  | some (.ok ds, s1) => if ds.length ≤ LEN then lcR (shareAll sh s1.1) (lcL g c e (hideFrom vs 0 (shareAll sh s1.1)) ds s1.2) else none
theorem q_lc {sh vs : List Nat} {it : IF T} {g : GF} {c e : EF T} {s : Sg T} : lcF sh vs it g c e s = lcO sh vs g c e (it s) := by
  unfold lcF lcO lcR
  rcases it s with _ | ⟨_ | _, _⟩ <;> rfl
theorem q_lcO {sh vs : List Nat} {g : GF} {c e : EF T} {ds : List D} {s : Sg T} : lcO sh vs g c e (some (.ok ds, s)) = if ds.length ≤ LEN then lcR (shareAll sh s.1) (lcL g c e (hideFrom vs 0 (shareAll sh s.1)) ds s.2) else none := (rfl)
theorem q_lcR {τ : List Sl} {out : List D} {t : T} : lcR τ (some (out, t)) = some (.ok (.f (.lst out)), (τ, t)) := (rfl)
def whO (c : EF T) (b : SF T) (n : Nat) : Option (SOut × Sg T) → Option (SOut × Sg T)
  | some (.nx, s1) => whileN c b n s1
  | some (.ct, s1) => whileN c b n s1
  | some (.bk, s1) => some (.nx, s1)
  | r => r
def whL (c : EF T) (b : SF T) (n : Nat) : SF T := fun s => whO c b n (b s)
theorem q_whileN {c : EF T} {b : SF T} {n : Nat} {s : Sg T} : whileN c b (n + 1) s = sbnd (ifK (whL c b n) nxF) (c s) := by
  show ifF c _ nxF s = _
  rw [q_if]
  rfl
theorem q_whL {c : EF T} {b : SF T} {n : Nat} {s : Sg T} : whL c b n s = whO c b n (b s) := (rfl)
theorem q_whO_nx {c : EF T} {b : SF T} {n : Nat} {s : Sg T} : whO c b n (some (.nx, s)) = whileN c b n s := (rfl)
theorem q_whO_ct {c : EF T} {b : SF T} {n : Nat} {s : Sg T} : whO c b n (some (.ct, s)) = whileN c b n s := (rfl)
theorem q_whO_bk {c : EF T} {b : SF T} {n : Nat} {s : Sg T} : whO c b n (some (.bk, s)) = some (.nx, s) := (rfl)
theorem q_whO_rt {c : EF T} {b : SF T} {n : Nat} {s : Sg T} {r : Res} : whO c b n (some (.rt r, s)) = some (.rt r, s) := (rfl)
/-! ### targets -/
theorem q_nameG {i : Nat} {d : D} {τ : List Sl} : nameG i d τ = some (τ.set i (.v d)) := (rfl)
def cgO (h : GFs) (ds : List D) : Option (List Sl) → Option (List Sl)
  | none => none
  | some τ => h ds τ
theorem q_nilG {τ : List Sl} : nilG [] τ = some τ := (rfl)
theorem q_consG {g : GF} {h : GFs} {d : D} {ds : List D} {τ : List Sl} : consG g h (d :: ds) τ = cgO h ds (g d τ) := by
  unfold cgO
  first | (rw [consG]; done) | (rw [consG]; cases g d τ <;> rfl)
theorem q_cgO {h : GFs} {ds : List D} {τ : List Sl} : cgO h ds (some τ) = h ds τ := (rfl)
theorem q_tupG {n : Nat} {h : GFs} {ds : List D} {τ : List Sl} : tupG n h (.tup ds) τ = if ds.length = n then h ds τ else none := (rfl)
theorem q_lstG {n : Nat} {h : GFs} {ds : List D} {τ : List Sl} : lstG n h (.lst ds) τ = if ds.length = n then h ds τ else none := (rfl)
/-! ### defs -/
def outF : Option (SOut × Sg T) → Option (FOut × T)
  | some (.nx, s) => some (.ok .non false, s.2)
  | some (.rt (.d d), s) => some (.ok d false, s.2)
  | some (.rt (.f d), s) => some (.ok d true, s.2)
  | some (.ex c fs, s) => some (.ex c fs, s.2)
  | _ => none
theorem q_run {N n : Nat} {f : SF T} {ds : List D} {t : T} (h : ds.length = n) : runF N n f ds t = outF (f (ds.map Sl.v ++ List.replicate (N - ds.length) .no, t)) := by
  unfold runF outF
  rw [if_pos h]
  rfl
theorem q_out_n {s : Sg T} : outF (some (.nx, s)) = some (.ok .non false, s.2) := (rfl)
theorem q_out_d {s : Sg T} {d : D} : outF (some (.rt (.d d), s)) = some (.ok d false, s.2) := (rfl)
theorem q_out_f {s : Sg T} {d : D} : outF (some (.rt (.f d), s)) = some (.ok d true, s.2) := (rfl)
end
/-! ### isinstance of constants -/
theorem q_is_non_int  : isiD [.non, .ty "int"] = some (.bl false, false) := by simp [isiD, tyN, kinds, isA]
theorem q_is_non_bool  : isiD [.non, .ty "bool"] = some (.bl false, false) := by simp [isiD, tyN, kinds, isA]
theorem q_is_non_str  : isiD [.non, .ty "str"] = some (.bl false, false) := by simp [isiD, tyN, kinds, isA]
theorem q_is_non_list  : isiD [.non, .ty "list"] = some (.bl false, false) := by simp [isiD, tyN, kinds, isA]
theorem q_is_non_tuple  : isiD [.non, .ty "tuple"] = some (.bl false, false) := by simp [isiD, tyN, kinds, isA]
theorem q_is_non_dict  : isiD [.non, .ty "dict"] = some (.bl false, false) := by simp [isiD, tyN, kinds, isA]
theorem q_is_non_tuple_list  : isiD [.non, .tup [.ty "tuple", .ty "list"]] = some (.bl false, false) := by simp [isiD, tyN, kinds, isA, isAny]
theorem q_is_non_list_tuple  : isiD [.non, .tup [.ty "list", .ty "tuple"]] = some (.bl false, false) := by simp [isiD, tyN, kinds, isA, isAny]
theorem q_is_bl_int {x : Bool} : isiD [(.bl x), .ty "int"] = some (.bl true, false) := by simp [isiD, tyN, kinds, isA]
theorem q_is_bl_bool {x : Bool} : isiD [(.bl x), .ty "bool"] = some (.bl true, false) := by simp [isiD, tyN, kinds, isA]
theorem q_is_bl_str {x : Bool} : isiD [(.bl x), .ty "str"] = some (.bl false, false) := by simp [isiD, tyN, kinds, isA]
theorem q_is_bl_list {x : Bool} : isiD [(.bl x), .ty "list"] = some (.bl false, false) := by simp [isiD, tyN, kinds, isA]
theorem q_is_bl_tuple {x : Bool} : isiD [(.bl x), .ty "tuple"] = some (.bl false, false) := by simp [isiD, tyN, kinds, isA]
theorem q_is_bl_dict {x : Bool} : isiD [(.bl x), .ty "dict"] = some (.bl false, false) := by simp [isiD, tyN, kinds, isA]
theorem q_is_bl_tuple_list {x : Bool} : isiD [(.bl x), .tup [.ty "tuple", .ty "list"]] = some (.bl false, false) := by simp [isiD, tyN, kinds, isA, isAny]
theorem q_is_bl_list_tuple {x : Bool} : isiD [(.bl x), .tup [.ty "list", .ty "tuple"]] = some (.bl false, false) := by simp [isiD, tyN, kinds, isA, isAny]
theorem q_is_int_int {x : Int} : isiD [(.int x), .ty "int"] = some (.bl true, false) := by simp [isiD, tyN, kinds, isA]
theorem q_is_int_bool {x : Int} : isiD [(.int x), .ty "bool"] = some (.bl false, false) := by simp [isiD, tyN, kinds, isA]
theorem q_is_int_str {x : Int} : isiD [(.int x), .ty "str"] = some (.bl false, false) := by simp [isiD, tyN, kinds, isA]
theorem q_is_int_list {x : Int} : isiD [(.int x), .ty "list"] = some (.bl false, false) := by simp [isiD, tyN, kinds, isA]
theorem q_is_int_tuple {x : Int} : isiD [(.int x), .ty "tuple"] = some (.bl false, false) := by simp [isiD, tyN, kinds, isA]
theorem q_is_int_dict {x : Int} : isiD [(.int x), .ty "dict"] = some (.bl false, false) := by simp [isiD, tyN, kinds, isA]
theorem q_is_int_tuple_list {x : Int} : isiD [(.int x), .tup [.ty "tuple", .ty "list"]] = some (.bl false, false) := by simp [isiD, tyN, kinds, isA, isAny]
theorem q_is_int_list_tuple {x : Int} : isiD [(.int x), .tup [.ty "list", .ty "tuple"]] = some (.bl false, false) := by simp [isiD, tyN, kinds, isA, isAny]
theorem q_is_str_int {x : Str} : isiD [(.str x), .ty "int"] = some (.bl false, false) := by simp [isiD, tyN, kinds, isA]
theorem q_is_str_bool {x : Str} : isiD [(.str x), .ty "bool"] = some (.bl false, false) := by simp [isiD, tyN, kinds, isA]
theorem q_is_str_str {x : Str} : isiD [(.str x), .ty "str"] = some (.bl true, false) := by simp [isiD, tyN, kinds, isA]
theorem q_is_str_list {x : Str} : isiD [(.str x), .ty "list"] = some (.bl false, false) := by simp [isiD, tyN, kinds, isA]
theorem q_is_str_tuple {x : Str} : isiD [(.str x), .ty "tuple"] = some (.bl false, false) := by simp [isiD, tyN, kinds, isA]
theorem q_is_str_dict {x : Str} : isiD [(.str x), .ty "dict"] = some (.bl false, false) := by simp [isiD, tyN, kinds, isA]
theorem q_is_str_tuple_list {x : Str} : isiD [(.str x), .tup [.ty "tuple", .ty "list"]] = some (.bl false, false) := by simp [isiD, tyN, kinds, isA, isAny]
theorem q_is_str_list_tuple {x : Str} : isiD [(.str x), .tup [.ty "list", .ty "tuple"]] = some (.bl false, false) := by simp [isiD, tyN, kinds, isA, isAny]
theorem q_is_tup_int {x : List D} : isiD [(.tup x), .ty "int"] = some (.bl false, false) := by simp [isiD, tyN, kinds, isA]
theorem q_is_tup_bool {x : List D} : isiD [(.tup x), .ty "bool"] = some (.bl false, false) := by simp [isiD, tyN, kinds, isA]
theorem q_is_tup_str {x : List D} : isiD [(.tup x), .ty "str"] = some (.bl false, false) := by simp [isiD, tyN, kinds, isA]
theorem q_is_tup_list {x : List D} : isiD [(.tup x), .ty "list"] = some (.bl false, false) := by simp [isiD, tyN, kinds, isA]
theorem q_is_tup_tuple {x : List D} : isiD [(.tup x), .ty "tuple"] = some (.bl true, false) := by simp [isiD, tyN, kinds, isA]
theorem q_is_tup_dict {x : List D} : isiD [(.tup x), .ty "dict"] = some (.bl false, false) := by simp [isiD, tyN, kinds, isA]
theorem q_is_tup_tuple_list {x : List D} : isiD [(.tup x), .tup [.ty "tuple", .ty "list"]] = some (.bl true, false) := by simp [isiD, tyN, kinds, isA, isAny]
theorem q_is_tup_list_tuple {x : List D} : isiD [(.tup x), .tup [.ty "list", .ty "tuple"]] = some (.bl true, false) := by simp [isiD, tyN, kinds, isA, isAny]
theorem q_is_lst_int {x : List D} : isiD [(.lst x), .ty "int"] = some (.bl false, false) := by simp [isiD, tyN, kinds, isA]
theorem q_is_lst_bool {x : List D} : isiD [(.lst x), .ty "bool"] = some (.bl false, false) := by simp [isiD, tyN, kinds, isA]
theorem q_is_lst_str {x : List D} : isiD [(.lst x), .ty "str"] = some (.bl false, false) := by simp [isiD, tyN, kinds, isA]
theorem q_is_lst_list {x : List D} : isiD [(.lst x), .ty "list"] = some (.bl true, false) := by simp [isiD, tyN, kinds, isA]
theorem q_is_lst_tuple {x : List D} : isiD [(.lst x), .ty "tuple"] = some (.bl false, false) := by simp [isiD, tyN, kinds, isA]
theorem q_is_lst_dict {x : List D} : isiD [(.lst x), .ty "dict"] = some (.bl false, false) := by simp [isiD, tyN, kinds, isA]
theorem q_is_lst_tuple_list {x : List D} : isiD [(.lst x), .tup [.ty "tuple", .ty "list"]] = some (.bl true, false) := by simp [isiD, tyN, kinds, isA, isAny]
theorem q_is_lst_list_tuple {x : List D} : isiD [(.lst x), .tup [.ty "list", .ty "tuple"]] = some (.bl true, false) := by simp [isiD, tyN, kinds, isA, isAny]
theorem q_is_dct_int {x : List (Key × D)} : isiD [(.dct x), .ty "int"] = some (.bl false, false) := by simp [isiD, tyN, kinds, isA]
theorem q_is_dct_bool {x : List (Key × D)} : isiD [(.dct x), .ty "bool"] = some (.bl false, false) := by simp [isiD, tyN, kinds, isA]
theorem q_is_dct_str {x : List (Key × D)} : isiD [(.dct x), .ty "str"] = some (.bl false, false) := by simp [isiD, tyN, kinds, isA]
theorem q_is_dct_list {x : List (Key × D)} : isiD [(.dct x), .ty "list"] = some (.bl false, false) := by simp [isiD, tyN, kinds, isA]
theorem q_is_dct_tuple {x : List (Key × D)} : isiD [(.dct x), .ty "tuple"] = some (.bl false, false) := by simp [isiD, tyN, kinds, isA]
theorem q_is_dct_dict {x : List (Key × D)} : isiD [(.dct x), .ty "dict"] = some (.bl true, false) := by simp [isiD, tyN, kinds, isA]
theorem q_is_dct_tuple_list {x : List (Key × D)} : isiD [(.dct x), .tup [.ty "tuple", .ty "list"]] = some (.bl false, false) := by simp [isiD, tyN, kinds, isA, isAny]
theorem q_is_dct_list_tuple {x : List (Key × D)} : isiD [(.dct x), .tup [.ty "list", .ty "tuple"]] = some (.bl false, false) := by simp [isiD, tyN, kinds, isA, isAny]
def fdA :=
  And.intro (@q_hold_d) <| And.intro (@q_hold_f) <| And.intro (@q_hold_s) <| And.intro (@q_peek_d) <| And.intro (@q_peek_f) <| And.intro (@q_peek_s) <| And.intro (@q_pkS_v) <| And.intro (@q_pkS_o) <| And.intro (@q_give_d) <| And.intro (@q_give_f) <| And.intro (@q_give_s) <| And.intro (@q_gvS_v) <| And.intro (@q_gvS_o) <| And.intro (@q_giveAll_n) <| And.intro (@q_giveAll_c) <| And.intro (@q_gvA) <| And.intro (@q_gvB) <| And.intro (@q_peekAll_n) <| And.intro (@q_peekAll_c) <| And.intro (@q_pkB) <| And.intro (@q_resOf_t) <| And.intro (@q_resOf_f) <| And.intro (@q_var) <| And.intro (@q_varK_v) <| And.intro (@q_varK_o) <| And.intro (@q_con) <| And.intro (@q_bnd) <| And.intro (@q_dnO) <| And.intro (@q_op2) <| And.intro (@q_op1) <| And.intro (@q_bin) <| And.intro (@q_binK) <| And.intro (@q_binK2) <| And.intro (@q_un) <| And.intro (@q_unK) <| And.intro (@q_branch) <| And.intro (@q_brK) <| And.intro (@q_brB_t) <| And.intro (@q_brB_f) <| And.intro (@q_and) <| And.intro (@q_or) <| And.intro (@q_not) <| And.intro (@q_nilA) <| And.intro (@q_consA) <| And.intro (@q_cnsK) <| And.intro (@q_cnsA) <| And.intro (@q_abnd) <| And.intro (@q_disp) <| And.intro (@q_dspK) <| And.intro (@q_dspO) <| And.intro (@q_tup) <| And.intro (@q_lst) <| And.intro (@q_opA) <| And.intro (@q_call) <| And.intro (@q_clK) <| And.intro (@q_ucall) <| And.intro (@q_ucK) <| And.intro (@q_ucO) <| And.intro (@q_fOut) <| And.intro (@q_seq) <| And.intro (@q_sqO_nx) <| And.intro (@q_sqO_rt) <| And.intro (@q_sqO_bk) <| And.intro (@q_sqO_ct) <| And.intro (@q_sqO_ex) <| And.intro (@q_nx) <| And.intro (@q_bk) <| And.intro (@q_ct) <| And.intro (@q_sbnd) <| And.intro (@q_drop) <| And.intro (@q_drK) <| And.intro (@q_ret) <| And.intro (@q_rtK_d) <| And.intro (@q_rtK_f) <| And.intro (@q_rtK_s) <| And.intro (@q_rtS_v) <| And.intro (@q_rtS_o) <| And.intro (@q_retN) <| And.intro (@q_if) <| And.intro (@q_ifK) <| And.intro (@q_ifB_t) <| And.intro (@q_ifB_f) <| And.intro (@q_stN) <| And.intro (@q_set) <| And.intro (@q_stK) <| And.intro (@q_store_d) <| And.intro (@q_store_f) <| And.intro (@q_store_s) <| And.intro (@q_stS_v) <| And.intro (@q_stS_o) <| And.intro (@q_asg) <| And.intro (@q_asK) <| And.intro (@q_asO) <| And.intro (@q_par) <| And.intro (@q_paK) <| And.intro (@q_paO) <| And.intro (@q_paK2) <| And.intro (@q_paN) <| And.intro (@q_parN) <| And.intro (@q_pnK) <| And.intro (@q_pnN) <| And.intro (@q_mut) <| And.intro (@q_muA) <| And.intro (@q_muK) <| And.intro (@q_muO) <| And.intro (@q_muX) <| And.intro (@q_for) <| And.intro (@q_frO) <| And.intro (@q_seqI) <| And.intro (@q_siB) <| And.intro (@q_sqA) <| And.intro (@q_itA) <| And.intro (@q_itO) <| And.intro (@q_items_l) <| And.intro (@q_items_t) <| And.intro (@q_callI) <| And.intro (@q_ciB) <| And.intro (@q_opI) <| And.intro (@q_lc) <| And.intro (@q_lcO) <| And.intro (@q_lcR) <| And.intro (@q_nameG) <| And.intro (@q_nilG) <| And.intro (@q_consG) <| And.intro (@q_cgO) <| And.intro (@q_tupG) <| And.intro (@q_lstG) <| And.intro (@q_run) <| And.intro (@q_out_n) <| And.intro (@q_out_d) <| And.intro (@q_out_f) <| And.intro (@q_whL) <| And.intro (@q_whO_nx) <| And.intro (@q_whO_ct) <| And.intro (@q_whO_bk) <| And.intro (@q_whO_rt) <| And.intro (@q_putAt) <| And.intro (@q_putS) <| And.intro (@q_putJ) <| And.intro (@q_setIx) <| And.intro (@q_siK) <| And.intro (@q_siO) <| And.intro (@q_siG) <| And.intro (@q_siK2) <| And.intro (@q_siP) <| And.intro (@q_aug) <| And.intro (@q_agS) <| And.intro (@q_agK) <| And.intro (@q_agO) <| And.intro (@q_sl) <| And.intro (@q_slL) <| And.intro (@q_slH) <| And.intro (@q_slP) <| And.intro (@q_ptK) <| And.intro (@q_ptI) <| And.intro (@q_ptD_n) <| And.intro (@q_ptD_i) <| And.intro (@q_slice_l) <| And.intro (@q_slice_t) <| And.intro (@q_rev) <| And.intro (@q_rev_l) <| And.intro (@q_rev_t) <| And.intro (@q_is_non_int) <| And.intro (@q_is_non_bool) <| And.intro (@q_is_non_str) <| And.intro (@q_is_non_list) <| And.intro (@q_is_non_tuple) <| And.intro (@q_is_non_dict) <| And.intro (@q_is_non_tuple_list) <| And.intro (@q_is_non_list_tuple) <| And.intro (@q_is_bl_int) <| And.intro (@q_is_bl_bool) <| And.intro (@q_is_bl_str) <| And.intro (@q_is_bl_list) <| And.intro (@q_is_bl_tuple) <| And.intro (@q_is_bl_dict) <| And.intro (@q_is_bl_tuple_list) <| And.intro (@q_is_bl_list_tuple) <| And.intro (@q_is_int_int) <| And.intro (@q_is_int_bool) <| And.intro (@q_is_int_str) <| And.intro (@q_is_int_list) <| And.intro (@q_is_int_tuple) <| And.intro (@q_is_int_dict) <| And.intro (@q_is_int_tuple_list) <| And.intro (@q_is_int_list_tuple) <| And.intro (@q_is_str_int) <| And.intro (@q_is_str_bool) <| And.intro (@q_is_str_str) <| And.intro (@q_is_str_list) <| And.intro (@q_is_str_tuple) <| And.intro (@q_is_str_dict) <| And.intro (@q_is_str_tuple_list) <| And.intro (@q_is_str_list_tuple) <| And.intro (@q_is_tup_int) <| And.intro (@q_is_tup_bool) <| And.intro (@q_is_tup_str) <| And.intro (@q_is_tup_list) <| And.intro (@q_is_tup_tuple) <| And.intro (@q_is_tup_dict) <| And.intro (@q_is_tup_tuple_list) <| And.intro (@q_is_tup_list_tuple) <| And.intro (@q_is_lst_int) <| And.intro (@q_is_lst_bool) <| And.intro (@q_is_lst_str) <| And.intro (@q_is_lst_list) <| And.intro (@q_is_lst_tuple) <| And.intro (@q_is_lst_dict) <| And.intro (@q_is_lst_tuple_list) <| And.intro (@q_is_lst_list_tuple) <| And.intro (@q_is_dct_int) <| And.intro (@q_is_dct_bool) <| And.intro (@q_is_dct_str) <| And.intro (@q_is_dct_list) <| And.intro (@q_is_dct_tuple) <| And.intro (@q_is_dct_dict) <| And.intro (@q_is_dct_tuple_list) (@q_is_dct_list_tuple)
abbrev tpI (ns : List Int) : D := .tup (ns.map D.int)
theorem next_eq {t : DS} {m : Int} {n : Nat} (h1 : 0 < m) (h2 : m < 2 ^ 64) (h3 : t.c < 2 ^ 40) : FF_q_next [.hnd n, .int m] t = some (.ok (.int (t.draw m)) false, t.step m) := by
  unfold FF_q_next
  exact if_pos ⟨h1, h2, h3⟩
end FD

/-! F23: what the operations give for data of known kinds. -/
namespace FD
open PySem PySem.Spec PyProof.Rows L2
theorem eqv_int (a b : Int) : PyData.eqv (.int a) (.int b) = decide (a = b) := by
  simp only [PyData.eqv]
  by_cases h : a = b <;> simp [h]
theorem eqv_bl (a b : Bool) : PyData.eqv (.bool a) (.bool b) = decide (a = b) := by
  cases a <;> cases b <;> simp [PyData.eqv]
theorem okAll_int (n : Nat) : ∀ ns : List Int, okAll n (ns.map D.int) = true
  | [] => rfl
  | a :: r => by simp [okAll, okD, okAll_int n r]
theorem pys_int : ∀ ns : List Int, pys (ns.map D.int) = ns.map PyData.int
  | [] => rfl
  | a :: r => by simp [pys, py, pys_int r]
theorem eqvAll_int : ∀ a b : List Int, PyData.eqvAll (a.map PyData.int) (b.map PyData.int) = decide (a = b)
  | [], [] => by simp [PyData.eqvAll]
  | [], b :: bs => by simp [PyData.eqvAll]
  | a :: r, [] => by simp [PyData.eqvAll]
  | a :: r, b :: bs => by simp [PyData.eqvAll, eqv_int, eqvAll_int r bs]
theorem v_eq_int {a b : Int} : eqD (.int a) (.int b) = some (.bl (decide (a = b)), false) := by
  simp [eqD, okD, eqB, py, eqv_int]
theorem v_ne_int {a b : Int} : neD (.int a) (.int b) = some (.bl (!decide (a = b)), false) := by
  simp [neD, okD, eqB, py, eqv_int]
theorem v_eq_bl {a b : Bool} : eqD (.bl a) (.bl b) = some (.bl (decide (a = b)), false) := by
  simp [eqD, okD, eqB, py, eqv_bl]
theorem v_ne_bl {a b : Bool} : neD (.bl a) (.bl b) = some (.bl (!decide (a = b)), false) := by
  simp [neD, okD, eqB, py, eqv_bl]
theorem v_eq_str {a b : Str} : eqD (.str a) (.str b) = some (.bl (decide (a = b)), false) := (rfl)
theorem v_ne_str {a b : Str} : neD (.str a) (.str b) = some (.bl (!decide (a = b)), false) := (rfl)
theorem v_eq_tpI {a b : List Int} : eqD (.tup (a.map D.int)) (.tup (b.map D.int)) = some (.bl (decide (a = b)), false) := by
  simp [eqD, okD, eqB, py, okAll_int, pys_int, PyData.eqv, eqvAll_int]
theorem v_ne_tpI {a b : List Int} : neD (.tup (a.map D.int)) (.tup (b.map D.int)) = some (.bl (!decide (a = b)), false) := by
  simp [neD, okD, eqB, py, okAll_int, pys_int, PyData.eqv, eqvAll_int]
theorem v_eq_lsI {a b : List Int} : eqD (.lst (a.map D.int)) (.lst (b.map D.int)) = some (.bl (decide (a = b)), false) := by
  simp [eqD, okD, eqB, py, okAll_int, pys_int, PyData.eqv, eqvAll_int]
theorem v_ne_lsI {a b : List Int} : neD (.lst (a.map D.int)) (.lst (b.map D.int)) = some (.bl (!decide (a = b)), false) := by
  simp [neD, okD, eqB, py, okAll_int, pys_int, PyData.eqv, eqvAll_int]
theorem v_eq_nil {a : List D} (h : okAll 63 a = true) : eqD (.lst a) (.lst []) = some (.bl a.isEmpty, false) := by
  cases a with
  | nil => simp [eqD, okD, okAll, eqB, py, pys, PyData.eqv, PyData.eqvAll]
  | cons x r =>
    have h' : okD 64 (.lst (x :: r)) = true := by unfold okD; exact h
    have h2 : okD 64 (.lst []) = true := by simp [okD, okAll]
    show (if okD 64 (.lst (x :: r)) = true ∧ okD 64 (.lst []) = true then _ else _) = _
    rw [if_pos ⟨h', h2⟩]
    simp [eqB, py, pys, PyData.eqv, PyData.eqvAll]
theorem v_is_bl {a : Bool} : isD (.bl a) .non = some (.bl false, false) := (rfl)
theorem v_is_int {a : Int} : isD (.int a) .non = some (.bl false, false) := (rfl)
theorem v_is_str {a : Str} : isD (.str a) .non = some (.bl false, false) := (rfl)
theorem v_is_tup {a : List D} : isD (.tup a) .non = some (.bl false, false) := (rfl)
theorem v_is_lst {a : List D} : isD (.lst a) .non = some (.bl false, false) := (rfl)
theorem v_is_non : isD .non .non = some (.bl true, false) := (rfl)
theorem v_is_bb {a b : Bool} : isD (.bl a) (.bl b) = some (.bl (decide (a = b)), false) := (rfl)
theorem v_isnt_bl {a : Bool} : isntD (.bl a) .non = some (.bl true, false) := (rfl)
theorem v_isnt_int {a : Int} : isntD (.int a) .non = some (.bl true, false) := (rfl)
theorem v_isnt_str {a : Str} : isntD (.str a) .non = some (.bl true, false) := (rfl)
theorem v_isnt_tup {a : List D} : isntD (.tup a) .non = some (.bl true, false) := (rfl)
theorem v_isnt_lst {a : List D} : isntD (.lst a) .non = some (.bl true, false) := (rfl)
theorem v_isnt_non : isntD .non .non = some (.bl false, false) := (rfl)
theorem v_add_int {a b : Int} : addD (.int a) (.int b) = some (.int (a + b), false) := (rfl)
theorem v_sub_int {a b : Int} : subD (.int a) (.int b) = some (.int (a - b), false) := (rfl)
theorem v_addI {a b : Int} : addI (.int a) (.int b) = some (.int (a + b), false) := (rfl)
theorem v_subI {a b : Int} : subI (.int a) (.int b) = some (.int (a - b), false) := (rfl)
theorem v_lt {a b : Int} : ltD (.int a) (.int b) = some (.bl (decide (a < b)), false) := (rfl)
theorem v_le {a b : Int} : leD (.int a) (.int b) = some (.bl (decide (a ≤ b)), false) := (rfl)
theorem v_gt {a b : Int} : gtD (.int a) (.int b) = some (.bl (decide (b < a)), false) := (rfl)
theorem v_ge {a b : Int} : geD (.int a) (.int b) = some (.bl (decide (b ≤ a)), false) := (rfl)
theorem v_len_t {a : List D} : lenD [.tup a] = some (.int a.length, false) := (rfl)
theorem v_len_l {a : List D} : lenD [.lst a] = some (.int a.length, false) := (rfl)
theorem v_sum_t {a : List Int} : sumD [.tup (a.map D.int)] = some (.int a.sum, false) := by
  simp [sumD, intsD_map]
theorem v_sum_l {a : List Int} : sumD [.lst (a.map D.int)] = some (.int a.sum, false) := by
  simp [sumD, intsD_map]
theorem v_tuple_l {a : List D} : tupleD [.lst a] = some (.tup a, false) := (rfl)
theorem v_tuple_t {a : List D} : tupleD [.tup a] = some (.tup a, false) := (rfl)
theorem v_list_l {a : List D} : listD [.lst a] = some (.lst a, true) := (rfl)
theorem v_list_t {a : List D} : listD [.tup a] = some (.lst a, true) := (rfl)
theorem v_int_i {a : Int} : intD [.int a] = some (.int a, false) := (rfl)
theorem v_int_b {a : Bool} : intD [.bl a] = some (.int (if a then 1 else 0), false) := (rfl)
theorem v_sort_t {b : Bool} {a : List Int} : sortBD b [.tup (a.map D.int)] = some (.lst ((sortOf b a).map D.int), true) := by
  simp [sortBD, intsD_map]
theorem v_sort_l {b : Bool} {a : List Int} : sortBD b [.lst (a.map D.int)] = some (.lst ((sortOf b a).map D.int), true) := by
  simp [sortBD, intsD_map]
theorem v_zip_l {a b : List D} : zipD [.lst a, .lst b] = some (pairD a b) := (rfl)
theorem v_zip_t {a b : List D} : zipD [.tup a, .tup b] = some (pairD a b) := (rfl)
theorem v_ix_t {a : List D} {i : Int} {d : D} (e : atI a i = some d) : ixD (.tup a) (.int i) = some (d, false) := by
  simp [ixD, e]
theorem v_ix_l {a : List D} {i : Int} {d : D} (e : atI a i = some d) : ixD (.lst a) (.int i) = some (d, false) := by
  simp [ixD, e]
theorem rngL_len (lo hi : Int) : (rngL lo hi).length = (hi - lo).toNat := by
  unfold rngL
  simp
theorem v_rng1 {j : Int} (h : small j = true) : rng1D [.int j] = some (rngL 0 j) := if_pos h
theorem small_of {i : Int} (h : -(2 ^ 60) ≤ i ∧ i ≤ 2 ^ 60) : small i = true := decide_eq_true h
theorem set_int {ns : List Int} {k : Nat} {x : Int} : (ns.map D.int).set k (.int x) = (ns.set k x).map D.int := by
  rw [List.map_set]
theorem app_int {ns : List Int} {x : Int} : ns.map D.int ++ [D.int x] = (ns ++ [x]).map D.int := by
  rw [List.map_append]
  rfl
theorem v_app {xs : List D} {d : D} (h : xs.length < LEN) : appD xs [d] = some (xs ++ [d], .non) := if_pos h
def fvA :=
  And.intro (@v_eq_int) <| And.intro (@v_ne_int) <| And.intro (@v_eq_bl) <| And.intro (@v_ne_bl) <| And.intro (@v_eq_str) <| And.intro (@v_ne_str) <| And.intro (@v_eq_tpI) <| And.intro (@v_ne_tpI) <| And.intro (@v_eq_lsI) <| And.intro (@v_ne_lsI) <| And.intro (@v_is_bl) <| And.intro (@v_is_int) <| And.intro (@v_is_str) <| And.intro (@v_is_tup) <| And.intro (@v_is_lst) <| And.intro (@v_is_non) <| And.intro (@v_is_bb) <| And.intro (@v_isnt_bl) <| And.intro (@v_isnt_int) <| And.intro (@v_isnt_str) <| And.intro (@v_isnt_tup) <| And.intro (@v_isnt_lst) <| And.intro (@v_isnt_non) <| And.intro (@v_add_int) <| And.intro (@v_sub_int) <| And.intro (@v_addI) <| And.intro (@v_subI) <| And.intro (@v_lt) <| And.intro (@v_le) <| And.intro (@v_gt) <| And.intro (@v_ge) <| And.intro (@v_len_t) <| And.intro (@v_len_l) <| And.intro (@v_sum_t) <| And.intro (@v_sum_l) <| And.intro (@v_tuple_l) <| And.intro (@v_tuple_t) <| And.intro (@v_list_l) <| And.intro (@v_list_t) <| And.intro (@v_int_i) <| And.intro (@v_int_b) <| And.intro (@v_sort_t) <| And.intro (@v_sort_l) <| And.intro (@v_zip_l) <| And.intro (@v_zip_t) <| And.intro (@set_int) <| (@app_int)
end FD

/-! F24: loops and comprehensions over lists of known kind. -/
namespace FD
open PySem PySem.Spec PyProof.Rows L2
section
variable {T : Type}
def flO (g : GF) (b : SF T) (ds : List D) : Option (SOut × Sg T) → Option (SOut × Sg T)
  | none => none
  | some (.nx, s1) => forL g b ds s1
  | some (.ct, s1) => forL g b ds s1
  | some (.bk, s1) => some (.nx, s1)
  | some (.rt r, s1) => some (.rt r, s1)
  | some (.ex c fs, s1) => some (.ex c fs, s1)
def flT (g : GF) (b : SF T) (ds : List D) (t : T) : Option (List Sl) → Option (SOut × Sg T)
  | none => none
  | some τ => flO g b ds (b (τ, t))
theorem q_forL_n {g : GF} {b : SF T} {s : Sg T} : forL g b [] s = some (.nx, s) := (rfl)
theorem q_forL_c {g : GF} {b : SF T} {d : D} {ds : List D} {s : Sg T} : forL g b (d :: ds) s = flT g b ds s.2 (g d s.1) := by
  show (match g d s.1 with
    | none => none
    | some τ => match b (τ, s.2) with
      | none => none
      | some (.nx, s1) => forL g b ds s1
      | some (.ct, s1) => forL g b ds s1
      | some (.bk, s1) => some (.nx, s1)
      | some (.rt r, s1) => some (.rt r, s1)
      | some (.ex c fs, s1) => some (.ex c fs, s1)) = _
  unfold flT flO
  cases g d s.1 with
  | none => rfl
  | some τ => rfl
theorem q_flT {g : GF} {b : SF T} {ds : List D} {t : T} {τ : List Sl} : flT g b ds t (some τ) = flO g b ds (b (τ, t)) := (rfl)
theorem q_flO_nx {g : GF} {b : SF T} {ds : List D} {s : Sg T} : flO g b ds (some (.nx, s)) = forL g b ds s := (rfl)
theorem q_flO_ct {g : GF} {b : SF T} {ds : List D} {s : Sg T} : flO g b ds (some (.ct, s)) = forL g b ds s := (rfl)
theorem q_flO_bk {g : GF} {b : SF T} {ds : List D} {s : Sg T} : flO g b ds (some (.bk, s)) = some (.nx, s) := (rfl)
theorem q_flO_rt {g : GF} {b : SF T} {ds : List D} {s : Sg T} {r : Res} : flO g b ds (some (.rt r, s)) = some (.rt r, s) := (rfl)
/-- a comprehension whose parts leave the state as it is -/
theorem lcL_fm {A : Type} {g : GF} {c e : EF T} {τ0 : List Sl} {t : T} (mk f : A → D) (p : A → Bool) : ∀ (as : List A),
    (∀ a ∈ as, ∃ τ1 rc τ2, g (mk a) τ0 = some τ1 ∧ c (τ1, t) = some (.ok rc, (τ2, t)) ∧ peek τ2 (hold rc) = some (.bl (p a)) ∧ (p a = true → ∃ r τ3 τ4, e (τ2, t) = some (.ok r, (τ3, t)) ∧ give τ3 r = some (f a, τ4))) →
    lcL g c e τ0 (as.map mk) t = some ((as.filter p).map f, t)
  | [], _ => rfl
  | a :: as, h => by
    obtain ⟨τ1, rc, τ2, e1, e2, e3, k⟩ := h a (List.mem_cons_self ..)
    have ih := lcL_fm mk f p as fun b hb => h b (List.mem_cons_of_mem _ hb)
    rw [List.map_cons]
    unfold lcL
    simp only [e1, e2, e3]
    cases hp : p a with
    | false =>
      simp only [ih]
      rw [List.filter_cons_of_neg (by simp [hp])]
    | true =>
      obtain ⟨r, τ3, τ4, e4, e5⟩ := k hp
      simp only [e4, e5, ih]
      rw [List.filter_cons_of_pos hp]
      rfl
/-- a comprehension without a condition, the state walking along -/
theorem lcL_inv {g : GF} {e : EF T} {τ0 : List Sl} (I : Nat → T → Prop) (P : Nat → D → Prop) : ∀ (ds : List D) (k : Nat) (t : T),
    (∀ i d t, ds[i]? = some d → I (k + i) t → ∃ τ1 r τ3 t' v τ4, g d τ0 = some τ1 ∧ e (τ1, t) = some (.ok r, (τ3, t')) ∧ give τ3 r = some (v, τ4) ∧ P (k + i) v ∧ I (k + i + 1) t') → I k t →
    ∃ out t', lcL g yesF e τ0 ds t = some (out, t') ∧ out.length = ds.length ∧ (∀ i v, out[i]? = some v → P (k + i) v) ∧ I (k + ds.length) t'
  | [], k, t, _, h => ⟨[], t, rfl, rfl, fun _ _ e => by simp at e, h⟩
  | d :: ds, k, t, st, h => by
    obtain ⟨τ1, r, τ3, t1, v, τ4, e1, e2, e3, p, h1⟩ := st 0 d t rfl h
    obtain ⟨out, t', e4, l, ps, h2⟩ := lcL_inv I P ds (k + 1) t1 (fun i d' t e hI => by
      have := st (i + 1) d' t e (by rw [show k + (i + 1) = k + 1 + i by omega]; exact hI)
      rwa [show k + (i + 1) + 1 = k + 1 + i + 1 by omega, show k + (i + 1) = k + 1 + i by omega] at this) h1
    refine ⟨v :: out, t', ?_, by simp [l], ?_, by rw [List.length_cons, show k + (ds.length + 1) = k + 1 + ds.length by omega]; exact h2⟩
    · unfold lcL
      have y : (yesF : EF T) (τ1, t) = some (.ok (.d (.bl true)), (τ1, t)) := (rfl)
      simp only [e1, y, peek, hold, e2, e3, e4]
    · intro i w e
      cases i with
      | zero => cases e; exact p
      | succ i => rw [show k + (i + 1) = k + 1 + i by omega]; exact ps i w e
theorem q_share_n {τ : List Sl} : shareAll [] τ = τ := (rfl)
def shO (i : Nat) (τ : List Sl) : Option Sl → List Sl
  | some (.o d) => τ.set i (.v d)
  | _ => τ
theorem q_share_c {i : Nat} {is : List Nat} {τ : List Sl} : shareAll (i :: is) τ = shareAll is (shO i τ τ[i]?) := by
  show shareAll is (match τ[i]? with
    | some (.o d) => τ.set i (.v d)
    | _ => τ) = _
  congr 1
theorem q_shO_v {i : Nat} {τ : List Sl} {d : D} : shO i τ (some (.v d)) = τ := (rfl)
theorem q_shO_o {i : Nat} {τ : List Sl} {d : D} : shO i τ (some (.o d)) = τ.set i (.v d) := (rfl)
theorem q_shO_n {i : Nat} {τ : List Sl} : shO i τ (some .no) = τ := (rfl)
theorem q_hide_n {vs : List Nat} {k : Nat} : hideFrom vs k [] = [] := (rfl)
theorem q_hide_c {vs : List Nat} {k : Nat} {s : Sl} {r : List Sl} : hideFrom vs k (s :: r) = (if k ∈ vs then .no else unown s) :: hideFrom vs (k + 1) r := (rfl)
theorem q_unown_v {d : D} : unown (.v d) = .v d := (rfl)
theorem q_unown_o {d : D} : unown (.o d) = .no := (rfl)
theorem q_unown_n : unown .no = .no := (rfl)
end
def fhA :=
  And.intro (@q_forL_n) <| And.intro (@q_forL_c) <| And.intro (@q_flT) <| And.intro (@q_flO_nx) <| And.intro (@q_flO_ct) <| And.intro (@q_flO_bk) <| And.intro (@q_flO_rt) <| And.intro (@q_share_n) <| And.intro (@q_share_c) <| And.intro (@q_shO_v) <| And.intro (@q_shO_o) <| And.intro (@q_shO_n) <| And.intro (@q_hide_n) <| And.intro (@q_hide_c) <| And.intro (@q_unown_v) <| And.intro (@q_unown_o) (@q_unown_n)
end FD

namespace FD
open PySem PySem.Spec PyProof.Rows L2
/-! ### data that repr can show -/
structure Tame (k n : Nat) (d : PyData) : Prop where
  sh : d.showable = true
  dp : d.depth ≤ k
  lv : d.leavesShort 70 = true
  bk : d.bulk ≤ n
theorem Tame.mono {k n k' n' : Nat} {d : PyData} (h : Tame k n d) (h1 : k ≤ k') (h2 : n ≤ n') : Tame k' n' d := ⟨h.sh, Nat.le_trans h.dp h1, h.lv, Nat.le_trans h.bk h2⟩
theorem Tame.fits {k n : Nat} {d : PyData} (h : Tame k n d) (hk : k ≤ 60) (hn : n ≤ 200000) : d.showable = true ∧ d.depth ≤ 60 ∧ d.shown.length ≤ sizeLine := by
  refine ⟨h.sh, Nat.le_trans h.dp hk, ?_⟩
  have := PyData.shown_le_bulk 70 (by decide) d h.lv
  have := h.bk
  rw [sizeLine_eq]
  omega
theorem log_lt {a : Nat} (h : a < 10 ^ 60) : a.log2 < 1920 := by
  by_cases h0 : a = 0
  · subst h0
    decide
  · have : a.log2 < 200 := (Nat.log2_lt h0).mpr (Nat.lt_of_lt_of_le h (by decide))
    omega
theorem tame_int {i : Int} (h : i.natAbs < 10 ^ 60) : Tame 0 0 (.int i) := by
  refine ⟨?_, ?_, ?_, ?_⟩
  · simp only [PyData.showable, decide_eq_true_eq]
    exact log_lt h
  · simp [PyData.depth]
  · have h1 := int_text_length_le10 (k := 60) (by decide) h
    have h2 : (PyData.shown (.int i)).length ≤ 70 := by
      have e : PyData.shown (.int i) = Str.ofString (toString i) := by simp only [PyData.shown]
      rw [e, PySem.ofString_length]
      omega
    simp only [PyData.leavesShort]
    exact decide_eq_true h2
  · simp [PyData.bulk]
theorem Tame.shown_ok {k n : Nat} {d : PyData} (h : Tame k n d) (hk : k ≤ 60) (hn : n ≤ 200000) : Shown d := h.fits hk hn
end FD

/-! F26: {}. -/
namespace FD
open PySem PySem.Spec PyProof.Rows L2
end FD

set_option maxHeartbeats 1000000
/-! F27: enumerate over a tuple. -/
namespace FD
open PySem PySem.Spec PyProof.Rows L2
theorem meets_enumT (l : Addr) (items : Array Value) (n : Nat) (dct : Option Addr) (sl : Array (Option Value)) :
    Meets (Builtin.«enumerate.__new__» ⟨[.type "enumerate", .ref l], []⟩) (fun _ R s => s.heap.get? l = some { cls := .type "tuple", dict := dct, data := .seq items n, slots := sl } ∧
      R (.ok (.ret (.ref (s.heap.objs.size + 1)))) { s with heap := (s.heap.push { cls := .type "tuple_iterator", data := .fields #[.ref l, .int 0 0] }).push { cls := .type "enumerate", data := .fields #[.none, .bool false, .ref s.heap.objs.size, rawInt 0, .none, .none] } }) :=
  .of_wp fun prog w A R s h => by
    obtain ⟨hp, g, d, tk, os⟩ := s
    obtain ⟨hl, h⟩ := h
    have sub := sub_enumerate
    have tup : Heap.IsTuple (Shared.heap ⟨hp, g, d, tk, os⟩) l items := ⟨_, hl, rfl, n, rfl⟩
    wp_walk using wpAny_loadPart' hl
    refine wpAny_stack_any fun st => wpAny_pure ?_
    split
    all_goals try (rename_i c _ _ _ _ _; cases (c == Value.type "enumerate"))
    all_goals
      wp_walk using wpAny_loadPart' hl, wpAny_pyIter_tuple tup
      exact ⟨_, by rw [Heap.size_push], h⟩
theorem enum_push {h : Heap} {l : Addr} : IsEnum ((h.push { cls := .type "tuple_iterator", data := .fields #[.ref l, .int 0 0] }).push { cls := .type "enumerate", data := .fields #[.none, .bool false, .ref h.objs.size, rawInt 0, .none, .none] }) (h.objs.size + 1) h.objs.size 0 .none := by
  have e := Heap.get?_push_size (h.push { cls := .type "tuple_iterator", data := .fields #[.ref l, .int 0 0] }) (o := { cls := .type "enumerate", data := .fields #[.none, .bool false, .ref h.objs.size, rawInt 0, .none, .none] }) rfl
  rw [Heap.size_push] at e
  exact e
theorem call_enumT {prog : Program} {w : World} {A : Around} {E : Value → Shared → Prop} {s : Shared} {l : Addr} {items : Array Value} {Q : Value → Shared → Prop} (ht : IsTup s.heap l items)
    (h : ∀ h', IsEnum h' (s.heap.objs.size + 1) s.heap.objs.size 0 .none → h'.IsTupleIter s.heap.objs.size l 0 → (∀ b o, s.heap.get? b = some o → h'.get? b = some o) → Q (.ref (s.heap.objs.size + 1)) { s with heap := h' }) :
    wpAny (model prog w) A (call (.type "enumerate") [.ref l]) Q E s := by
  obtain ⟨⟨cls, dd, data, sl⟩, ho, hc, n, hd⟩ := ht
  simp only at hc hd
  subst hc hd
  exact callType_new F.called_enumerate (by decide) (F.typeCall_enumerate_1 _) (F.newCall_enumerate_1 _) (fun obj => F.args_object_init_2 obj _) F.entry_enumerate_new (meets_enumT l items n dd sl)
    ⟨ho, ⟨_, enum_push, rfl⟩, h _ enum_push ⟨_, Heap.get?_push_of_some _ (Heap.get?_push_size _ rfl), rfl, rfl⟩ fun b o x => Heap.get?_push_of_some _ (Heap.get?_push_of_some _ x)⟩
/-- the tuple at a, each item in a new pair -/
def IteT (K : PySem.W.Frag) (a : Addr) : It :=
  ⟨fun i H => ∃ (xs : List V) (x : V), SqT K H a xs ∧ xs[i]? = some x, fun i H v H' => ∃ T x, v = .ref T ∧ H T = none ∧ H' = upd H T (.tup [.int (i : Nat), x]) ∧ ∀ xs, SqT K H a xs → xs[i]? = some x, fun i H => ∃ xs : List V, SqT K H a xs ∧ xs.length = i⟩
theorem turn_enumT {P : Program} {w : World} {K : PySem.W.Frag} {elts : List Expr} {kk : Nat} {tpos : Pos} (a e it : Addr) :
    Turn P w K (.Tuple elts kk tpos) (IteT K a) [e, it] e (fun i h => (∃ old, IsEnum h e it ((i : Nat) : Int) old) ∧ h.IsTupleIter it a i ∧ e ≠ it) where
  mem := by simp
  obj := fun i h ⟨⟨old, he⟩, ⟨o, ho, hc, hd⟩, _⟩ b hb => by
    rcases List.mem_cons.mp hb with rfl | hb
    · exact ⟨_, he, fun v q => nomatch q⟩
    · obtain rfl := List.mem_singleton.mp hb
      exact ⟨o, ho, fun v q => by rw [hd] at q; cases q⟩
  keep := fun i h h' ⟨⟨old, he⟩, hi, hne⟩ k => ⟨⟨old, k e (List.mem_cons_self ..) _ he⟩, hi.at fun o q => k it (by simp) o q, hne⟩
  item := by
    intro X hP hw hK hc i pins s σ H E I hf ⟨⟨old, he⟩, hit, hne⟩ ⟨xs, x, hq, hx⟩
    subst hP hw hK
    obtain ⟨its, rv, p, hz⟩ := I.tuple hq
    obtain ⟨u, hu, ru⟩ := rv.get hx
    have ta : a ≠ it := fun z => by
      obtain ⟨o, ho, c, _⟩ := hit
      obtain ⟨o2, ho2, c2, _⟩ := p
      rw [z, ho] at ho2
      cases ho2
      rw [c] at c2
      exact absurd c2 (by decide)
    have ea : e ≠ a := fun z => by
      obtain ⟨o2, ho2, c2, _⟩ := p
      have q := he
      unfold IsEnum at q
      rw [z, ho2] at q
      cases q
      simp at c2
    have hel : e < s.heap.objs.size := Heap.lt_size he
    have hil : it < s.heap.objs.size := by obtain ⟨_, q, _⟩ := hit; exact Heap.lt_size q
    have hi : i < its.toArray.size := by
      rw [List.size_toArray]
      exact (List.getElem?_eq_some_iff.mp hu).1
    refine wpAny_pyNext_enum_itemD (Draws.tuple (A := X.A.in1) (show X.A.in1.handled = none from I.ok.hd hc) it a ta its.toArray) he ⟨hit, p⟩ hi hne (by simp [hne, ea]) fun y h' tk hy ho st' hT hsz hk => ?_
    obtain rfl : y = u := by
      have : its.toArray[i]? = some u := by simpa using hu
      rw [this] at hy
      cases hy
      rfl
    refine ⟨_, rfl, wpAny_letOwnedTupleGo_enum (s := { s with heap := h', toks := tk + 1 }) ho fun h'' he' sb => ?_⟩
    have hT2 : h''.get? s.heap.objs.size = some { cls := .type "tuple", data := .seq #[.int i tk, y] } := (sb.2 _ (Nat.ne_of_gt hel)).trans hT
    have new : ObjOk X.prog X.w (upd H s.heap.objs.size (.tup [.int (i : Nat), x])) h'' s.heap.objs.size (.tup [.int (i : Nat), x]) :=
      ⟨by show 2 ≤ sizeLine; decide, [.int i tk, y], .cons ⟨_, rfl⟩ (.cons ru .nil), ⟨_, hT2, rfl, _, rfl⟩⟩
    have I1 : Inv X pins σ (upd H s.heap.objs.size (.tup [.int (i : Nat), x])) { s with heap := h'', toks := tk + 1 } :=
      I.turnedNew (ch := [e, it]) (fun b ob hb q => (sb.2 b (fun z => hb (by simp [z]))).trans (hk b ob (fun z => hb (by simp [z])) (fun z => hb (by simp [z])) q)) hf (Nat.le_refl _) new
    have fr := I.hok.fresh (Nat.le_refl s.heap.objs.size)
    refine ⟨.ref s.heap.objs.size, _, I1, rfl, ⟨_, x, rfl, fr, rfl, fun ys hy => by rw [I.tuple_inj hy hq]; exact hx⟩, ⟨⟨y, ?_⟩, st'.1.at fun o q => (sb.2 it (Ne.symm hne)).trans q, hne⟩, fun b hb => ?_⟩
    · rw [show ((i + 1 : Nat) : Int) = (i : Int) + 1 by omega]
      exact he'
    · have lt : b < s.heap.objs.size := by
        rcases List.mem_cons.mp hb with rfl | hb
        · exact hel
        · obtain rfl := List.mem_singleton.mp hb
          exact hil
      rw [upd_ne (Nat.ne_of_lt lt)]
      exact (hf b hb).1
  done := by
    intro X hP hw hK hc i pins s σ H E I hf ⟨⟨old, he⟩, hit, hne⟩ ⟨xs, hq, hx⟩
    subst hP hw hK
    obtain ⟨its, rv, p, hz⟩ := I.tuple hq
    obtain ⟨f0, f1, f2, f3, f4, f5⟩ := hf it (by simp)
    have ta : a ≠ it := fun z => by
      obtain ⟨o, ho, c, _⟩ := hit
      obtain ⟨o2, ho2, c2, _⟩ := p
      rw [z, ho] at ho2
      cases ho2
      rw [c] at c2
      exact absurd c2 (by decide)
    have hl : i = its.toArray.size := by rw [List.size_toArray, ← hx, rv.length]
    exact wpAny_pyNext_enum_endD (Draws.tuple (A := X.A.in1) (show X.A.in1.handled = none from I.ok.hd hc) it a ta its.toArray) he ⟨hl ▸ hit, p⟩ fun h' eb => ⟨rfl, I.turned (t' := s.toks) (fun b o hb q => eb b o hb q) f0 f1 f3 f4 f5⟩
  self := fun A i s Q E ⟨⟨_, he⟩, _⟩ h => wpAny_pyIter_enum he h
/-- what enumerate walks: a list or a tuple -/
def iEnumA (K : PySem.W.Frag) (ta : TA) : TI := fun σ H R => ta σ H fun vs H1 => ∃ a xs, vs = [.ref a] ∧ ((SqL K H1 a xs ∧ R (Ite K a) H1) ∨ (SqT K H1 a xs ∧ R (IteT K a) H1))
theorem pi_enumA {X : Cx} {e : Expr} {ta : TA} {p pos tpos : Pos} {elts : List Expr} {kk : Nat} (hg : Gl X "enumerate") (hm : X.mg "enumerate" = none) (ha : PA X [e] ta) (hs : starEach [e] X.env = [(false, eval e X.env)] := by rfl) :
    PI X (.Tuple elts kk tpos) (.Call (.Name "enumerate" p) [e] [] pos) (iEnumA X.K ta) := by
  refine ⟨fun pins s σ H R I h => ?_⟩
  refine Call_ (ld_blt I hg hm boot_enumerate (PyProof.Rows.callWith_type1 (thn (ha.run pos pins s σ H _ I h) fun us s1 ⟨vs, H1, I1, r1, a, xs, ex, hq⟩ => ?_) hs rfl))
  subst ex
  cases r1 with
  | cons r rr =>
    cases rr
    cases r
    have fresh : ∀ b ∈ [s1.heap.objs.size + 1, s1.heap.objs.size], FpOk X pins H1 b := fun b hb => by
      have le : s1.heap.objs.size ≤ b := by
        rcases List.mem_cons.mp hb with rfl | hb
        · exact Nat.le_succ _
        · obtain rfl := List.mem_singleton.mp hb
          exact Nat.le_refl _
      exact I1.fpOk le (I1.hok.fresh le)
    rcases hq with ⟨hq, q⟩ | ⟨hq, q⟩
    · obtain ⟨its, rv, p', hz⟩ := I1.list hq
      refine call_enumerate_list p'.isList fun h' he hit hsz hk => wpAny_pyIter_enum he ?_
      exact ⟨s1.heap.objs.size + 1, _, _, _, H1, rfl, I1.kept (t' := s1.toks) hk, turn_enum a (s1.heap.objs.size + 1) s1.heap.objs.size, ⟨⟨.none, he⟩, hit, Nat.succ_ne_self _⟩, fresh, q⟩
    · obtain ⟨its, rv, p', hz⟩ := I1.tuple hq
      refine call_enumT p' fun h' he hit hk => wpAny_pyIter_enum he ?_
      exact ⟨s1.heap.objs.size + 1, _, _, _, H1, rfl, I1.kept (t' := s1.toks) hk, turn_enumT a (s1.heap.objs.size + 1) s1.heap.objs.size, ⟨⟨.none, he⟩, hit, Nat.succ_ne_self _⟩, fresh, q⟩
theorem walk_enumT {K : PySem.W.Frag} {a : Addr} {xs : List V} : Walk (IteT K a) xs.length (fun H => SqT K H a xs) (YPair (fun i => some (.int (i : Nat))) (fun i => xs[i]?)) := by
  refine ⟨fun i _ hi q => ⟨xs, xs[i], q, by simp [hi]⟩, fun _ q => ⟨xs, q, rfl⟩, fun i H v H' _ q y => ?_⟩
  obtain ⟨T, x, h1, h2, h3, h4⟩ := y
  exact ⟨T, _, x, h1, h2, h3, rfl, h4 xs q⟩
def enumL : Nat → List D → List D
  | _, [] => []
  | k, d :: ds => .tup [.int (k : Nat), d] :: enumL (k + 1) ds
theorem enumL_len : ∀ (ds : List D) (k : Nat), (enumL k ds).length = ds.length
  | [], _ => rfl
  | d :: ds, k => by simp [enumL, enumL_len ds]
theorem enumL_get : ∀ {ds : List D} {k i : Nat} {d : D}, ds[i]? = some d → (enumL k ds)[i]? = some (.tup [.int ((k + i : Nat) : Int), d])
  | [], _, _, _, h => by simp at h
  | d :: ds, k, 0, _, h => by cases h; rfl
  | d :: ds, k, i + 1, _, h => by
    have := enumL_get (ds := ds) (k := k + 1) (i := i) h
    rw [show k + 1 + i = k + (i + 1) by omega] at this
    exact this
def enumD : List D → Option (List D)
  | [.lst ds] => some (enumL 0 ds)
  | [.tup ds] => some (enumL 0 ds)
  | _ => none
section
variable {Z : Wd} {X : Cx} {C : Fx Z}
theorem walks_enum {O : Addr → Prop} {H : Hp} {J : It} {xs : List V} {ds : List D} {G : Hp → Prop} (w : Walk J ds.length G (YPair (fun i => some (.int (i : Nat))) (fun i => xs[i]?))) (hG : ∀ O' H', Ext O H O' H' → G H') (c : DenA Z O H xs ds) : Walks Z O H J (enumL 0 ds) := by
  refine ⟨G, _, by rw [enumL_len]; exact w, hG, fun i H1 v H2 O1 hi x hO y => ?_⟩
  obtain ⟨T, x1, y1, rfl, hT, rfl, e1, e2⟩ := y
  cases e1
  obtain ⟨d2, f2, n2⟩ := c.get e2
  obtain ⟨g, dn⟩ := pair_new hO hT (.int (i : Nat)) (n2.ext x)
  have := enumL_get (k := 0) f2
  rw [Nat.zero_add] at this
  exact ⟨_, this, g, dn⟩
theorem iv_enum {tpos p pos : Pos} {elts : List Expr} {kk : Nat} {e : Expr} {g : AF Z.T} (hg : Gl X "enumerate") (hm : X.mg "enumerate" = none) (ha : PA X [e] (tA C g)) (hs : starEach [e] X.env = [(false, eval e X.env)] := by rfl) :
    PI X (.Tuple elts kk tpos) (.Call (.Name "enumerate" p) [e] [] pos) (tI C (callI enumD g)) :=
  ⟨fun pins s σ H R I h => (pi_enumA hg hm ha hs).run pins s σ H R I (tA_mono (callI_of h) fun vs H1 ⟨O, ds, out, e, dn, k⟩ => by
    unfold enumD at e
    split at e
    · cases e
      cases dn with
      | cons d r =>
        cases r
        cases d with
        | ref e1 n1 c1 => cases c1 with
          | lst c1 => exact ⟨_, _, rfl, .inl ⟨SqL.of e1, k _ (walks_enum (by rw [← c1.len]; exact walk_enum) (fun O' H' x => SqL.of (x.kept _ _ e1 n1)) c1)⟩⟩
    · cases e
      cases dn with
      | cons d r =>
        cases r
        cases d with
        | ref e1 n1 c1 => cases c1 with
          | tup c1 => exact ⟨_, _, rfl, .inr ⟨SqT.of e1, k _ (walks_enum (by rw [← c1.len]; exact walk_enumT) (fun O' H' x => SqT.of (x.kept _ _ e1 n1)) c1)⟩⟩
    · cases e)⟩
end
end FD

/-! F28: str(). -/
namespace FD
open PySem PySem.Spec PyProof.Rows L2
def strD : List D → Option (D × Bool)
  | [.int i] => if i.natAbs < 2 ^ 1000 then some (.str (toString i), false) else none
  | [.str x] => some (.str x, false)
  | [.bl b] => some (.str (if b then "True" else "False"), false)
  | _ => none
theorem cD_str {Z : Wd} {X : Cx} : CallD Z X (.type "str") strD := by
  intro pins s σ H xs us Q I r h
  obtain ⟨O, ds, z, hO, sh, e, q⟩ := h
  unfold strD at e
  split at e
  · split at e
    · rename_i hi
      cases e
      cases sh with
      | cons sx sr =>
        cases sr
        cases sx.int
        have hl : (Int.natAbs ‹Int›).log2 < 1000 := PySem.Flt.log2_lt_of (by decide) hi
        exact call_str_int pins s σ H _ us Q I r ⟨_, rfl, Nat.lt_of_lt_of_le hl (by decide), q _ _ (.same (.str _))⟩
    · cases e
  · cases e
    cases sh with
    | cons sx sr =>
      cases sr
      cases sx.str
      exact SkE.call_str_str pins s σ H _ us Q I r ⟨_, rfl, q _ _ (.same (.str _))⟩
  · cases e
    cases sh with
    | cons sx sr =>
      cases sr
      cases sx.bl
      obtain ⟨u, rfl, r1⟩ := vals1 r
      cases (show u = Value.bool _ from r1)
      refine PySem.P.str_of_bool ?_
      exact ⟨.str _, H, I.tok _, ⟨_, rfl⟩, q _ _ (.same (.str _))⟩
  · cases e
theorem units65 {k : Nat} {A : Around} (r : Room k A) : A.units + 65 < cLine := by
  have := r.un
  omega
end FD

/-! F29: three names at once. -/
namespace FD
open PySem PySem.Spec PyProof.Rows L2
section
variable {Z : Wd} {X : Cx} {C : Fx Z}
theorem set_swap {A : Type} (l : List A) {i j k : Nat} (h1 : i ≠ j) (h2 : i ≠ k) (h3 : j ≠ k) (a b c : A) : ((l.set k c).set j b).set i a = ((l.set i a).set j b).set k c := by
  rw [List.set_comm c b (Ne.symm h3), List.set_comm c a (Ne.symm h2), List.set_comm b a (Ne.symm h1)]
theorem sv_par3 {i j l : Nat} {x y z : Str} {a b c : Expr} {f g h : EF Z.T} {px py pz pt pos : Pos} {kt k2 pt2} (hc : X.calm = true) (hN : X.N.Nodup) (hi : X.N[i]? = some x) (hj : X.N[j]? = some y) (hl : X.N[l]? = some z) (hij : i ≠ j) (hil : i ≠ l) (hjl : j ≠ l)
    (hx : X.env.scope.names.lookup x = some .local) (hy : X.env.scope.names.lookup y = some .local) (hz : X.env.scope.names.lookup z = some .local) (ha : PE X a (tF C f)) (hb : PE X b (tF C g)) (hd : PE X c (tF C h))
    (hw : swappedStores [.Tuple [.Name x px, .Name y py, .Name z pz] kt pt] (.Tuple [a, b, c] k2 pt2) X.env = pure (some [x, y, z]))
    (hs : swapsWithSole [.Tuple [.Name x px, .Name y py, .Name z pz] kt pt] (.Tuple [a, b, c] k2 pt2) pos.line X.env = pure false := by rfl)
    (h1 : starEach [a, b, c] X.env = (false, eval a X.env) :: starEach [b, c] X.env := by rfl) (h2 : starEach [b, c] X.env = (false, eval b X.env) :: starEach [c] X.env := by rfl) (h3 : starEach [c] X.env = (false, eval c X.env) :: starEach [] X.env := by rfl) :
    PS X (.Assign [.Tuple [.Name x px, .Name y py, .Name z pz] kt pt] (.Tuple [a, b, c] k2 pt2) pos) (tS C (par3F i j l f g h)) :=
  ⟨fun pins s σ H E I hh => (ps_par3 hc hN hi hj hl hij hil hjl hx hy hz (pa_cons ha (pa_cons hb (pa_cons hd pa_nil h3) h2) h1) hw hs).run pins s σ H E I (by
    obtain ⟨ow, τ, t, R, z0, kn⟩ := hh
    refine tF_mono (kn.bind R z0) fun v H1 ⟨ow1, τ1, t1, r, R1, r1, k1, x1⟩ => ?_
    obtain ⟨o1, s1, e1, k1⟩ := k1
    simp only at e1
    split at e1
    · cases e1
    · rename_i d τ2 p1
      obtain ⟨ow2, R2, z2, d2, x2⟩ := r1.give R1 p1
      have kn2 : KnS C (sbind g (fun r2 s2 => match give s2.1 r2 with
        | none => none
        | some (d2, τ2) => sbind h (fun r3 s3 => match storeAt l s3.1 r3 with
          | none => none
          | some τ3 => some (.nx, ((τ3.set j (.v d2)).set i (.v d), s3.2))) (τ2, s2.2))) ow2 τ2 t1 H1 E := ⟨o1, s1, e1, k1.from x2⟩
      refine tF_mono (kn2.bind R2 z2) fun w H3 ⟨ow3, τ3, t3, r3, R3, q3, k3, x3⟩ => ?_
      obtain ⟨o3, s3, e3, k3⟩ := k3
      simp only at e3
      split at e3
      · cases e3
      · rename_i d' τ4 p3
        obtain ⟨ow4, R4, z4, d4, x4⟩ := q3.give R3 p3
        have kn4 : KnS C (sbind h (fun r3 s3 => match storeAt l s3.1 r3 with
          | none => none
          | some τ3 => some (.nx, ((τ3.set j (.v d')).set i (.v d), s3.2)))) ow4 τ4 t3 H3 E := ⟨o3, s3, e3, k3.from x4⟩
        refine tF_mono (kn4.bind R4 z4) fun u H5 ⟨ow5, τ5, t5, r5, R5, q5, k5, x5⟩ => ?_
        obtain ⟨o5, s5, e5, k5⟩ := k5
        simp only at e5
        split at e5
        · cases e5
        · rename_i τ6 p5
          cases e5
          obtain ⟨ow6, R6, z6, x6⟩ := R5.store q5 p5
          have R7 := R6.set (i := j) (d4.ext (x5.trans x6))
          have R8 := R7.set (i := i) ((((d2.ext (x3.trans x4)).ext (x5.trans x6)).ext ext_drop))
          refine ⟨v, w, u, rfl, ?_⟩
          rw [show ((σ.set i (some v)).set j (some w)).set l (some u) = ((σ.set l (some u)).set j (some w)).set i (some v) from (set_swap σ hij hil hjl _ _ _).symm]
          exact k5 _ _ H5 R8 (drop_zero (drop_zero z6)) ((x6.trans ext_drop).trans ext_drop))⟩
end
end FD

/-! F30: what holds behind a function of data: the part that waits comes to the front, what follows it stands behind. -/
namespace FD
open PySem PySem.Spec PyProof.Rows L2
section
variable {T : Type}
def wS (x : Option (SOut × Sg T)) (Q : SOut → Sg T → Prop) : Prop := ∃ o s, x = some (o, s) ∧ Q o s
def wE (x : Option (Out × Sg T)) (Q : Out → Sg T → Prop) : Prop := ∃ o s, x = some (o, s) ∧ Q o s
def wA (x : Option (OutA × Sg T)) (Q : OutA → Sg T → Prop) : Prop := ∃ o s, x = some (o, s) ∧ Q o s
def wI (x : Option (OutI × Sg T)) (Q : OutI → Sg T → Prop) : Prop := ∃ o s, x = some (o, s) ∧ Q o s
def wF (x : Option (FOut × T)) (Q : FOut → T → Prop) : Prop := ∃ o s, x = some (o, s) ∧ Q o s
def wL (x : Option (List D × T)) (Q : List D → T → Prop) : Prop := ∃ o s, x = some (o, s) ∧ Q o s
def wG (x : Option (List Sl)) (Q : List Sl → Prop) : Prop := ∃ o, x = some o ∧ Q o
def wV (x : Option (D × Bool)) (Q : D → Bool → Prop) : Prop := ∃ d b, x = some (d, b) ∧ Q d b
theorem w_S {o : SOut} {s : Sg T} {Q : SOut → Sg T → Prop} : wS (some (o, s)) Q = Q o s := propext ⟨fun ⟨_, _, e, h⟩ => by cases e; exact h, fun h => ⟨_, _, rfl, h⟩⟩
theorem w_E {o : Out} {s : Sg T} {Q : Out → Sg T → Prop} : wE (some (o, s)) Q = Q o s := propext ⟨fun ⟨_, _, e, h⟩ => by cases e; exact h, fun h => ⟨_, _, rfl, h⟩⟩
theorem w_A {o : OutA} {s : Sg T} {Q : OutA → Sg T → Prop} : wA (some (o, s)) Q = Q o s := propext ⟨fun ⟨_, _, e, h⟩ => by cases e; exact h, fun h => ⟨_, _, rfl, h⟩⟩
theorem w_I {o : OutI} {s : Sg T} {Q : OutI → Sg T → Prop} : wI (some (o, s)) Q = Q o s := propext ⟨fun ⟨_, _, e, h⟩ => by cases e; exact h, fun h => ⟨_, _, rfl, h⟩⟩
theorem w_F {o : FOut} {s : T} {Q : FOut → T → Prop} : wF (some (o, s)) Q = Q o s := propext ⟨fun ⟨_, _, e, h⟩ => by cases e; exact h, fun h => ⟨_, _, rfl, h⟩⟩
theorem w_L {o : List D} {s : T} {Q : List D → T → Prop} : wL (some (o, s)) Q = Q o s := propext ⟨fun ⟨_, _, e, h⟩ => by cases e; exact h, fun h => ⟨_, _, rfl, h⟩⟩
theorem w_G {o : List Sl} {Q : List Sl → Prop} : wG (some o) Q = Q o := propext ⟨fun ⟨_, e, h⟩ => by cases e; exact h, fun h => ⟨_, rfl, h⟩⟩
theorem w_V {d : D} {b : Bool} {Q : D → Bool → Prop} : wV (some (d, b)) Q = Q d b := propext ⟨fun ⟨_, _, e, h⟩ => by cases e; exact h, fun h => ⟨_, _, rfl, h⟩⟩
/-! ### statements -/
def sqQ (g : SF T) (Q : SOut → Sg T → Prop) : SOut → Sg T → Prop
  | .nx, s => wS (g s) Q
  | o, s => Q o s
theorem w_sqO {g : SF T} {x : Option (SOut × Sg T)} {Q : SOut → Sg T → Prop} : wS (sqO g x) Q = wS x (sqQ g Q) := by
  rcases x with _ | ⟨o, s⟩
  · exact propext ⟨fun ⟨_, _, e, _⟩ => (nomatch e), fun ⟨_, _, e, _⟩ => (nomatch e)⟩
  · rw [w_S]
    cases o with
    | nx => rfl
    | rt r => exact w_S
    | bk => exact w_S
    | ct => exact w_S
    | ex c fs => exact w_S
theorem w_sqQ_nx {g : SF T} {Q : SOut → Sg T → Prop} {s : Sg T} : sqQ g Q .nx s = wS (g s) Q := (rfl)
theorem w_sqQ_rt {g : SF T} {Q : SOut → Sg T → Prop} {s : Sg T} {r : Res} : sqQ g Q (.rt r) s = Q (.rt r) s := (rfl)
theorem w_sqQ_bk {g : SF T} {Q : SOut → Sg T → Prop} {s : Sg T} : sqQ g Q .bk s = Q .bk s := (rfl)
theorem w_sqQ_ct {g : SF T} {Q : SOut → Sg T → Prop} {s : Sg T} : sqQ g Q .ct s = Q .ct s := (rfl)
theorem w_sqQ_ex {g : SF T} {Q : SOut → Sg T → Prop} {s : Sg T} {c : Str} {fs : List (Str × D)} : sqQ g Q (.ex c fs) s = Q (.ex c fs) s := (rfl)
def sbQ (k : Res → SF T) (Q : SOut → Sg T → Prop) : Out → Sg T → Prop
  | .ok r, s => wS (k r s) Q
  | .ex c fs, s => Q (.ex c fs) s
theorem w_sbnd {k : Res → SF T} {x : Option (Out × Sg T)} {Q : SOut → Sg T → Prop} : wS (sbnd k x) Q = wE x (sbQ k Q) := by
  rcases x with _ | ⟨o, s⟩
  · exact propext ⟨fun ⟨_, _, e, _⟩ => (nomatch e), fun ⟨_, _, e, _⟩ => (nomatch e)⟩
  · rw [w_E]
    cases o with
    | ok r => rfl
    | ex c fs => exact w_S
theorem w_sbQ {k : Res → SF T} {Q : SOut → Sg T → Prop} {r : Res} {s : Sg T} : sbQ k Q (.ok r) s = wS (k r s) Q := (rfl)
theorem w_sbQ_ex {k : Res → SF T} {Q : SOut → Sg T → Prop} {c : Str} {fs : List (Str × D)} {s : Sg T} : sbQ k Q (.ex c fs) s = Q (.ex c fs) s := (rfl)
theorem w_ifB {g h : SF T} {s : Sg T} {b : Bool} {Q : SOut → Sg T → Prop} : wS (ifB g h s (some (.bl b))) Q = ((b = true → wS (g s) Q) ∧ (b = false → wS (h s) Q)) := by
  cases b
  · exact propext ⟨fun k => ⟨(fun z => nomatch z), fun _ => k⟩, fun k => k.2 rfl⟩
  · exact propext ⟨fun k => ⟨fun _ => k, (fun z => nomatch z)⟩, fun k => k.1 rfl⟩
/-! ### expressions -/
def bnQ (k : Res → EF T) (Q : Out → Sg T → Prop) : Out → Sg T → Prop
  | .ok r, s => wE (k r s) Q
  | .ex c fs, s => Q (.ex c fs) s
theorem w_bnd {k : Res → EF T} {x : Option (Out × Sg T)} {Q : Out → Sg T → Prop} : wE (bnd k x) Q = wE x (bnQ k Q) := by
  rcases x with _ | ⟨o, s⟩
  · exact propext ⟨fun ⟨_, _, e, _⟩ => (nomatch e), fun ⟨_, _, e, _⟩ => (nomatch e)⟩
  · rw [w_E]
    cases o with
    | ok r => rfl
    | ex c fs => exact w_E
theorem w_bnQ {k : Res → EF T} {Q : Out → Sg T → Prop} {r : Res} {s : Sg T} : bnQ k Q (.ok r) s = wE (k r s) Q := (rfl)
theorem w_bnQ_ex {k : Res → EF T} {Q : Out → Sg T → Prop} {c : Str} {fs : List (Str × D)} {s : Sg T} : bnQ k Q (.ex c fs) s = Q (.ex c fs) s := (rfl)
def abQ (k : List Res → EF T) (Q : Out → Sg T → Prop) : OutA → Sg T → Prop
  | .ok r, s => wE (k r s) Q
  | .ex c fs, s => Q (.ex c fs) s
theorem w_abnd {k : List Res → EF T} {x : Option (OutA × Sg T)} {Q : Out → Sg T → Prop} : wE (abnd k x) Q = wA x (abQ k Q) := by
  rcases x with _ | ⟨o, s⟩
  · exact propext ⟨fun ⟨_, _, e, _⟩ => (nomatch e), fun ⟨_, _, e, _⟩ => (nomatch e)⟩
  · rw [w_A]
    cases o with
    | ok r => rfl
    | ex c fs => exact w_E
theorem w_abQ {k : List Res → EF T} {Q : Out → Sg T → Prop} {r : List Res} {s : Sg T} : abQ k Q (.ok r) s = wE (k r s) Q := (rfl)
theorem w_abQ_ex {k : List Res → EF T} {Q : Out → Sg T → Prop} {c : Str} {fs : List (Str × D)} {s : Sg T} : abQ k Q (.ex c fs) s = Q (.ex c fs) s := (rfl)
def cn2Q (r : Res) (Q : OutA → Sg T → Prop) : OutA → Sg T → Prop
  | .ok rs, s => Q (.ok (hold r :: rs)) s
  | .ex c fs, s => Q (.ex c fs) s
theorem w_cnsA {r : Res} {x : Option (OutA × Sg T)} {Q : OutA → Sg T → Prop} : wA (cnsA r x) Q = wA x (cn2Q r Q) := by
  rcases x with _ | ⟨o, s⟩
  · exact propext ⟨fun ⟨_, _, e, _⟩ => (nomatch e), fun ⟨_, _, e, _⟩ => (nomatch e)⟩
  · rw [w_A]
    cases o with
    | ok r => exact w_A
    | ex c fs => exact w_A
theorem w_cn2Q {r : Res} {Q : OutA → Sg T → Prop} {rs : List Res} {s : Sg T} : cn2Q r Q (.ok rs) s = Q (.ok (hold r :: rs)) s := (rfl)
theorem w_cn2Q_ex {r : Res} {Q : OutA → Sg T → Prop} {c : Str} {fs : List (Str × D)} {s : Sg T} : cn2Q r Q (.ex c fs) s = Q (.ex c fs) s := (rfl)
def cnQ (g : AF T) (Q : OutA → Sg T → Prop) : Out → Sg T → Prop
  | .ok r, s => wA (cnsA r (g s)) Q
  | .ex c fs, s => Q (.ex c fs) s
theorem w_cnsK {g : AF T} {x : Option (Out × Sg T)} {Q : OutA → Sg T → Prop} : wA (cnsK g x) Q = wE x (cnQ g Q) := by
  rcases x with _ | ⟨o, s⟩
  · exact propext ⟨fun ⟨_, _, e, _⟩ => (nomatch e), fun ⟨_, _, e, _⟩ => (nomatch e)⟩
  · rw [w_E]
    cases o with
    | ok r => rfl
    | ex c fs => exact w_A
theorem w_cnQ {g : AF T} {Q : OutA → Sg T → Prop} {r : Res} {s : Sg T} : cnQ g Q (.ok r) s = wA (cnsA r (g s)) Q := (rfl)
theorem w_cnQ_ex {g : AF T} {Q : OutA → Sg T → Prop} {c : Str} {fs : List (Str × D)} {s : Sg T} : cnQ g Q (.ex c fs) s = Q (.ex c fs) s := (rfl)
theorem w_brB {g h : EF T} {s : Sg T} {b : Bool} {Q : Out → Sg T → Prop} : wE (brB g h s (some (.bl b))) Q = ((b = true → wE (g s) Q) ∧ (b = false → wE (h s) Q)) := by
  cases b
  · exact propext ⟨fun k => ⟨(fun z => nomatch z), fun _ => k⟩, fun k => k.2 rfl⟩
  · exact propext ⟨fun k => ⟨fun _ => k, (fun z => nomatch z)⟩, fun k => k.1 rfl⟩
def foQ (τ : List Sl) (Q : Out → Sg T → Prop) : FOut → T → Prop
  | .ok d fr, t => Q (.ok (resOf (d, fr))) (τ, t)
  | .ex c fs, t => Q (.ex c fs) (τ, t)
theorem w_fOut {τ : List Sl} {x : Option (FOut × T)} {Q : Out → Sg T → Prop} : wE (fOut τ x) Q = wF x (foQ τ Q) := by
  rcases x with _ | ⟨o, s⟩
  · exact propext ⟨fun ⟨_, _, e, _⟩ => (nomatch e), fun ⟨_, _, e, _⟩ => (nomatch e)⟩
  · rw [w_F]
    cases o with
    | ok r => exact w_E
    | ex c fs => exact w_E
theorem w_foQ {τ : List Sl} {Q : Out → Sg T → Prop} {d : D} {fr : Bool} {t : T} : foQ τ Q (.ok d fr) t = Q (.ok (resOf (d, fr))) (τ, t) := (rfl)
theorem w_foQ_ex {τ : List Sl} {Q : Out → Sg T → Prop} {c : Str} {fs : List (Str × D)} {t : T} : foQ τ Q (.ex c fs) t = Q (.ex c fs) (τ, t) := (rfl)
def ouQ (Q : FOut → T → Prop) : SOut → Sg T → Prop
  | .nx, s => Q (.ok .non false) s.2
  | .rt (.d d), s => Q (.ok d false) s.2
  | .rt (.f d), s => Q (.ok d true) s.2
  | .ex c fs, s => Q (.ex c fs) s.2
  | _, _ => False
theorem w_outF {x : Option (SOut × Sg T)} {Q : FOut → T → Prop} : wF (outF x) Q = wS x (ouQ Q) := by
  rcases x with _ | ⟨o, s⟩
  · exact propext ⟨fun ⟨_, _, e, _⟩ => (nomatch e), fun ⟨_, _, e, _⟩ => (nomatch e)⟩
  · rw [w_S]
    rcases o with _ | (_ | _ | _) | _ | _ | _
    · exact w_F
    · exact w_F
    · exact w_F
    · exact propext ⟨fun ⟨_, _, e, _⟩ => (nomatch e), fun e => e.elim⟩
    · exact propext ⟨fun ⟨_, _, e, _⟩ => (nomatch e), fun e => e.elim⟩
    · exact propext ⟨fun ⟨_, _, e, _⟩ => (nomatch e), fun e => e.elim⟩
    · exact w_F
theorem w_ouQ_nx {Q : FOut → T → Prop} {s : Sg T} : ouQ Q .nx s = Q (.ok .non false) s.2 := (rfl)
theorem w_ouQ_d {Q : FOut → T → Prop} {s : Sg T} {d : D} : ouQ Q (.rt (.d d)) s = Q (.ok d false) s.2 := (rfl)
theorem w_ouQ_f {Q : FOut → T → Prop} {s : Sg T} {d : D} : ouQ Q (.rt (.f d)) s = Q (.ok d true) s.2 := (rfl)
theorem w_ouQ_ex {Q : FOut → T → Prop} {s : Sg T} {c : Str} {fs : List (Str × D)} : ouQ Q (.ex c fs) s = Q (.ex c fs) s.2 := (rfl)
theorem w_dnO {s : Sg T} {x : Option (D × Bool)} {Q : Out → Sg T → Prop} : wE (dnO s x) Q = wV x fun d b => Q (.ok (resOf (d, b))) s := by
  rcases x with _ | ⟨d, b⟩
  · exact propext ⟨fun ⟨_, _, e, _⟩ => (nomatch e), fun ⟨_, _, e, _⟩ => (nomatch e)⟩
  · rw [w_V]
    exact w_E
/-! ### what is walked -/
def siQ (Q : OutI → Sg T → Prop) : Out → Sg T → Prop
  | .ok r, s => wI (siB (some (.ok r, s))) Q
  | .ex c fs, s => Q (.ex c fs) s
theorem w_siB {x : Option (Out × Sg T)} {Q : OutI → Sg T → Prop} : wI (siB x) Q = wE x (siQ Q) := by
  rcases x with _ | ⟨o, s⟩
  · exact propext ⟨fun ⟨_, _, e, _⟩ => (nomatch e), fun ⟨_, _, e, _⟩ => (nomatch e)⟩
  · rw [w_E]
    cases o with
    | ok r => rfl
    | ex c fs => exact w_I
theorem w_siQ {Q : OutI → Sg T → Prop} {r : Res} {s : Sg T} : siQ Q (.ok r) s = wI (itO s.2 (sqA (give s.1 r))) Q := (rfl)
theorem w_siQ_ex {Q : OutI → Sg T → Prop} {c : Str} {fs : List (Str × D)} {s : Sg T} : siQ Q (.ex c fs) s = Q (.ex c fs) s := (rfl)
def ciQ (op : List D → Option (List D)) (Q : OutI → Sg T → Prop) : OutA → Sg T → Prop
  | .ok r, s => wI (ciB op (some (.ok r, s))) Q
  | .ex c fs, s => Q (.ex c fs) s
theorem w_ciB {op : List D → Option (List D)} {x : Option (OutA × Sg T)} {Q : OutI → Sg T → Prop} : wI (ciB op x) Q = wA x (ciQ op Q) := by
  rcases x with _ | ⟨o, s⟩
  · exact propext ⟨fun ⟨_, _, e, _⟩ => (nomatch e), fun ⟨_, _, e, _⟩ => (nomatch e)⟩
  · rw [w_A]
    cases o with
    | ok r => rfl
    | ex c fs => exact w_I
theorem w_ciQ {op : List D → Option (List D)} {Q : OutI → Sg T → Prop} {r : List Res} {s : Sg T} : ciQ op Q (.ok r) s = wI (itO s.2 (opI op (giveAll s.1 r))) Q := (rfl)
theorem w_ciQ_ex {op : List D → Option (List D)} {Q : OutI → Sg T → Prop} {c : Str} {fs : List (Str × D)} {s : Sg T} : ciQ op Q (.ex c fs) s = Q (.ex c fs) s := (rfl)
def frQ (g : GF) (b : SF T) (Q : SOut → Sg T → Prop) : OutI → Sg T → Prop
  | .ok ds, s => wS (forL g b ds s) Q
  | .ex c fs, s => Q (.ex c fs) s
theorem w_frO {g : GF} {b : SF T} {x : Option (OutI × Sg T)} {Q : SOut → Sg T → Prop} : wS (frO g b x) Q = wI x (frQ g b Q) := by
  rcases x with _ | ⟨o, s⟩
  · exact propext ⟨fun ⟨_, _, e, _⟩ => (nomatch e), fun ⟨_, _, e, _⟩ => (nomatch e)⟩
  · rw [w_I]
    cases o with
    | ok r => rfl
    | ex c fs => exact w_S
theorem w_frQ {g : GF} {b : SF T} {Q : SOut → Sg T → Prop} {ds : List D} {s : Sg T} : frQ g b Q (.ok ds) s = wS (forL g b ds s) Q := (rfl)
theorem w_frQ_ex {g : GF} {b : SF T} {Q : SOut → Sg T → Prop} {c : Str} {fs : List (Str × D)} {s : Sg T} : frQ g b Q (.ex c fs) s = Q (.ex c fs) s := (rfl)
def lcQ (sh vs : List Nat) (g : GF) (c e : EF T) (Q : Out → Sg T → Prop) : OutI → Sg T → Prop
  | .ok ds, s => ds.length ≤ LEN ∧ wL (lcL g c e (hideFrom vs 0 (shareAll sh s.1)) ds s.2) fun out t => Q (.ok (.f (.lst out))) (shareAll sh s.1, t)
  | .ex c fs, s => Q (.ex c fs) s
theorem w_lcO {sh vs : List Nat} {g : GF} {c e : EF T} {x : Option (OutI × Sg T)} {Q : Out → Sg T → Prop} : wE (lcO sh vs g c e x) Q = wI x (lcQ sh vs g c e Q) := by
  rcases x with _ | ⟨o, s⟩
  · exact propext ⟨fun ⟨_, _, e, _⟩ => (nomatch e), fun ⟨_, _, e, _⟩ => (nomatch e)⟩
  · rw [w_I]
    cases o with
    | ok ds =>
      rw [q_lcO]
      show _ = (ds.length ≤ LEN ∧ _)
      by_cases h : ds.length ≤ LEN
      · rw [if_pos h]
        generalize lcL g c e (hideFrom vs 0 (shareAll sh s.1)) ds s.2 = y
        rcases y with _ | ⟨o, t⟩
        · exact propext ⟨fun ⟨_, _, e, _⟩ => (nomatch e), fun ⟨_, _, _, e, _⟩ => (nomatch e)⟩
        · rw [w_L, q_lcR, w_E]
          exact propext ⟨fun k => ⟨h, k⟩, fun k => k.2⟩
      · rw [if_neg h]
        exact propext ⟨fun ⟨_, _, e, _⟩ => (nomatch e), fun k => absurd k.1 h⟩
    | ex c fs => exact w_E
theorem w_lcQ {sh vs : List Nat} {g : GF} {c e : EF T} {Q : Out → Sg T → Prop} {ds : List D} {s : Sg T} : lcQ sh vs g c e Q (.ok ds) s = (ds.length ≤ LEN ∧ wL (lcL g c e (hideFrom vs 0 (shareAll sh s.1)) ds s.2) fun out t => Q (.ok (.f (.lst out))) (shareAll sh s.1, t)) := (rfl)
theorem w_lcQ_ex {sh vs : List Nat} {g : GF} {c e : EF T} {Q : Out → Sg T → Prop} {k : Str} {fs : List (Str × D)} {s : Sg T} : lcQ sh vs g c e Q (.ex k fs) s = Q (.ex k fs) s := (rfl)
theorem w_lcR {τ : List Sl} {x : Option (List D × T)} {Q : Out → Sg T → Prop} : wE (lcR τ x) Q = wL x fun out t => Q (.ok (.f (.lst out))) (τ, t) := by
  rcases x with _ | ⟨o, t⟩
  · exact propext ⟨fun ⟨_, _, e, _⟩ => (nomatch e), fun ⟨_, _, e, _⟩ => (nomatch e)⟩
  · rw [w_L, q_lcR, w_E]
theorem w_dsp {n : Nat} {x : Option (Out × Sg T)} {Q : Out → Sg T → Prop} : wE (if n ≤ 100000 then x else none) Q = (n ≤ 100000 ∧ wE x Q) := by
  by_cases h : n ≤ 100000
  · rw [if_pos h]
    exact propext ⟨fun k => ⟨h, k⟩, fun k => k.2⟩
  · rw [if_neg h]
    exact propext ⟨fun ⟨_, _, e, _⟩ => (nomatch e), fun k => absurd k.1 h⟩
/-! ### tests, items given -/
def tsQ (Q : Bool → Sg T → Prop) : Out → Sg T → Prop
  | .ok r, s => ∃ b, peek s.1 (hold r) = some (.bl b) ∧ Q b s
  | .ex _ _, _ => False
theorem w_tsQ {Q : Bool → Sg T → Prop} {r : Res} {s : Sg T} : tsQ Q (.ok r) s = ∃ b, peek s.1 (hold r) = some (.bl b) ∧ Q b s := (rfl)
theorem w_tsB {Q : Bool → Prop} {b : Bool} : (∃ c, some (D.bl b) = some (D.bl c) ∧ Q c) = Q b := propext ⟨fun ⟨_, e, h⟩ => by cases e; exact h, fun h => ⟨_, rfl, h⟩⟩
def gvQ (Q : D → T → Prop) : Out → Sg T → Prop
  | .ok r, s => ∃ d τ, give s.1 r = some (d, τ) ∧ Q d s.2
  | .ex _ _, _ => False
theorem w_gvQ {Q : D → T → Prop} {r : Res} {s : Sg T} : gvQ Q (.ok r) s = ∃ d τ, give s.1 r = some (d, τ) ∧ Q d s.2 := (rfl)
theorem w_gvB {Q : D → Prop} {d : D} {τ : List Sl} : (∃ d' τ', some (d, τ) = some (d', τ') ∧ Q d') = Q d := propext ⟨fun ⟨_, _, e, h⟩ => by cases e; exact h, fun h => ⟨_, _, rfl, h⟩⟩
/-! ### loops -/
def flQ (J : Sg T → Prop) (Q : SOut → Sg T → Prop) : SOut → Sg T → Prop
  | .nx, s => J s
  | .ct, s => J s
  | .bk, s => Q .nx s
  | o, s => Q o s
theorem w_flQ_nx {J : Sg T → Prop} {Q : SOut → Sg T → Prop} {s : Sg T} : flQ J Q .nx s = J s := (rfl)
theorem w_flQ_ct {J : Sg T → Prop} {Q : SOut → Sg T → Prop} {s : Sg T} : flQ J Q .ct s = J s := (rfl)
theorem w_flQ_bk {J : Sg T → Prop} {Q : SOut → Sg T → Prop} {s : Sg T} : flQ J Q .bk s = Q .nx s := (rfl)
theorem w_flQ_rt {J : Sg T → Prop} {Q : SOut → Sg T → Prop} {s : Sg T} {r : Res} : flQ J Q (.rt r) s = Q (.rt r) s := (rfl)
theorem w_flQ_ex {J : Sg T → Prop} {Q : SOut → Sg T → Prop} {s : Sg T} {c : Str} {fs : List (Str × D)} : flQ J Q (.ex c fs) s = Q (.ex c fs) s := (rfl)
theorem w_forK {g : GF} {b : SF T} {Q : SOut → Sg T → Prop} (I : Nat → Sg T → Prop) : ∀ (ds : List D) (k : Nat) (s : Sg T),
    (∀ i d s, ds[i]? = some d → I (k + i) s → wG (g d s.1) fun τ => wS (b (τ, s.2)) (flQ (I (k + i + 1)) Q)) → I k s → (∀ s, I (k + ds.length) s → Q .nx s) → wS (forL g b ds s) Q
  | [], k, s, _, h, fin => ⟨_, _, rfl, fin s h⟩
  | d :: ds, k, s, st, h, fin => by
    obtain ⟨τ, e1, o, s1, e2, h1⟩ := st 0 d s rfl h
    rw [q_forL_c, e1, q_flT, e2]
    have next : I (k + 1) s1 → wS (forL g b ds s1) Q := fun h1 => w_forK I ds (k + 1) s1 (fun i d' s e hI => by
      have := st (i + 1) d' s e (by rw [show k + (i + 1) = k + 1 + i by omega]; exact hI)
      rwa [show k + (i + 1) + 1 = k + 1 + i + 1 by omega] at this) h1 (fun s hs => fin s (by rw [List.length_cons, show k + (ds.length + 1) = k + 1 + ds.length by omega]; exact hs))
    cases o with
    | nx => exact next h1
    | ct => exact next h1
    | bk => exact ⟨_, _, rfl, h1⟩
    | rt r => exact ⟨_, _, rfl, h1⟩
    | ex c fs => exact ⟨_, _, rfl, h1⟩
theorem w_for {g : GF} {b : SF T} {Q : SOut → Sg T → Prop} {ds : List D} {s : Sg T} (I : Nat → Sg T → Prop) (h : I 0 s)
    (st : ∀ i d s, ds[i]? = some d → I i s → wG (g d s.1) fun τ => wS (b (τ, s.2)) (flQ (I (i + 1)) Q)) (fin : ∀ s, I ds.length s → Q .nx s) : wS (forL g b ds s) Q :=
  w_forK I ds 0 s (fun i d s e hI => by rw [Nat.zero_add] at hI ⊢; exact st i d s e hI) h (fun s hs => fin s (by rw [Nat.zero_add] at hs; exact hs))
/-- over a list of known things, the state known by what has been walked -/
theorem w_forA {A : Type} {g : GF} {b : SF T} {Q : SOut → Sg T → Prop} {ds : List D} {s : Sg T} (as : List A) (mk : A → D) (he : ds = as.map mk) (I : List A → Sg T → Prop) (h : I [] s)
    (st : ∀ l a r s, as = l ++ a :: r → I l s → wG (g (mk a) s.1) fun τ => wS (b (τ, s.2)) (flQ (I (l ++ [a])) Q)) (fin : ∀ s, I as s → Q .nx s) : wS (forL g b ds s) Q := by
  subst he
  refine w_for (fun i s => I (as.take i) s) (by simpa using h) (fun i d s e hI => ?_) (fun s hs => fin s (by simpa using hs))
  rw [List.getElem?_map] at e
  cases q : as[i]? with
  | none => rw [q] at e; cases e
  | some a =>
    rw [q] at e
    cases e
    have hi : i < as.length := (List.getElem?_eq_some_iff.mp q).1
    have e1 : as = as.take i ++ a :: as.drop (i + 1) := by
      have ha : as[i] = a := (List.getElem?_eq_some_iff.mp q).2
      rw [← ha, ← List.drop_eq_getElem_cons hi, List.take_append_drop]
    have := st (as.take i) a (as.drop (i + 1)) s e1 hI
    have e2 : as.take (i + 1) = as.take i ++ [a] := by rw [List.take_succ, q]; rfl
    rw [e2]
    exact this
/-- a comprehension whose parts leave the state as it is -/
theorem w_fm {A : Type} {g : GF} {c e : EF T} {τ0 : List Sl} {t : T} {ds : List D} {Q : List D → T → Prop} (as : List A) (mk : A → D) (he : ds = as.map mk) (p : A → Bool) (f : A → D)
    (h : ∀ a ∈ as, wG (g (mk a) τ0) fun τ1 => wE (c (τ1, t)) (tsQ fun b s2 => b = p a ∧ s2.2 = t ∧ (b = true → wE (e s2) (gvQ fun d t' => d = f a ∧ t' = t))))
    (k : Q ((as.filter p).map f) t) : wL (lcL g c e τ0 ds t) Q := by
  subst he
  refine ⟨_, _, lcL_fm mk f p as fun a ha => ?_, k⟩
  obtain ⟨τ1, e1, o, s2, e2, q2⟩ := h a ha
  cases o with
  | ex _ _ => exact q2.elim
  | ok rc =>
    obtain ⟨b, e3, hb, ht, k2⟩ := q2
    obtain ⟨τ2, t2⟩ := s2
    simp only at ht
    subst ht hb
    refine ⟨τ1, rc, τ2, e1, e2, e3, fun hp => ?_⟩
    obtain ⟨o3, s3, e4, q3⟩ := k2 hp
    cases o3 with
    | ex _ _ => exact q3.elim
    | ok r =>
      obtain ⟨d, τ4, e5, hd, ht⟩ := q3
      obtain ⟨τ3, t3⟩ := s3
      simp only at ht
      subst ht hd
      exact ⟨r, τ3, τ4, e4, e5⟩
theorem w_map {A : Type} {g : GF} {e : EF T} {τ0 : List Sl} {t : T} {ds : List D} {Q : List D → T → Prop} (as : List A) (mk : A → D) (he : ds = as.map mk) (f : A → D)
    (h : ∀ a ∈ as, wG (g (mk a) τ0) fun τ1 => wE (e (τ1, t)) (gvQ fun d t' => d = f a ∧ t' = t)) (k : Q (as.map f) t) : wL (lcL g yesF e τ0 ds t) Q := by
  refine w_fm as mk he (fun _ => true) f (fun a ha => ?_) (by
    have e : as.filter (fun _ => true) = as := List.filter_eq_self.mpr fun _ _ => rfl
    rw [e]
    exact k)
  obtain ⟨τ1, e1, q⟩ := h a ha
  refine ⟨τ1, e1, ?_⟩
  have y : (yesF : EF T) (τ1, t) = some (.ok (.d (.bl true)), (τ1, t)) := (rfl)
  show wE (yesF (τ1, t)) _
  rw [y, w_E]
  exact ⟨true, rfl, rfl, rfl, fun _ => q⟩
/-- a comprehension that changes the state -/
theorem w_lcI {g : GF} {e : EF T} {τ0 : List Sl} {t : T} {ds : List D} {Q : List D → T → Prop} (I : Nat → T → Prop) (P : Nat → D → Prop) (h : I 0 t)
    (st : ∀ i d t, ds[i]? = some d → I i t → wG (g d τ0) fun τ1 => wE (e (τ1, t)) (gvQ fun v t' => P i v ∧ I (i + 1) t'))
    (fin : ∀ out t', out.length = ds.length → (∀ i v, out[i]? = some v → P i v) → I ds.length t' → Q out t') : wL (lcL g yesF e τ0 ds t) Q := by
  obtain ⟨out, t', e1, l, ps, h2⟩ := lcL_inv (g := g) (e := e) (τ0 := τ0) I P ds 0 t (fun i d t e hI => by
    rw [Nat.zero_add] at hI ⊢
    obtain ⟨τ1, e1, o, s2, e2, q2⟩ := st i d t e hI
    cases o with
    | ex _ _ => exact q2.elim
    | ok r =>
      obtain ⟨v, τ4, e3, p, q⟩ := q2
      exact ⟨τ1, r, s2.1, s2.2, v, τ4, e1, e2, e3, p, q⟩) h
  exact ⟨out, t', e1, fin out t' l (fun i v hv => by have := ps i v hv; rwa [Nat.zero_add] at this) (by rwa [Nat.zero_add] at h2)⟩
/-- while: by a measure -/
theorem w_while {c : EF T} {b : SF T} {Q : SOut → Sg T → Prop} {s : Sg T} (I : Sg T → Prop) (m : Sg T → Nat) (h : I s)
    (st : ∀ s, I s → wE (c s) (tsQ fun k s1 => (k = true → wS (b s1) (flQ (fun s2 => I s2 ∧ m s2 < m s) Q)) ∧ (k = false → Q .nx s1))) : wS (whileF c b s) Q := by
  have key : ∀ n s, I s → m s < n → ∃ o s', whileN c b n s = some (o, s') ∧ Q o s' := by
    intro n
    induction n with
    | zero => intro s _ hn; omega
    | succ n ih =>
      intro s hI hn
      obtain ⟨o, s1, e1, q1⟩ := st s hI
      cases o with
      | ex _ _ => exact q1.elim
      | ok r =>
        obtain ⟨k, e2, k1, k2⟩ := q1
        rw [q_whileN, e1, q_sbnd, q_ifK, e2]
        cases k with
        | false => exact ⟨_, _, rfl, k2 rfl⟩
        | true =>
          obtain ⟨o, s2, e3, q3⟩ := k1 rfl
          rw [q_ifB_t, q_whL, e3]
          cases o with
          | nx => exact ih s2 q3.1 (by have := q3.2; omega)
          | ct => exact ih s2 q3.1 (by have := q3.2; omega)
          | bk => exact ⟨_, _, rfl, q3⟩
          | rt r => exact ⟨_, _, rfl, q3⟩
          | ex c fs => exact ⟨_, _, rfl, q3⟩
  obtain ⟨o, s', e, q⟩ := key (m s + 1) s h (Nat.lt_succ_self _)
  exact ⟨o, s', whileF_of e, q⟩
/-! ### in and out -/
theorem w_eq {x : Option (FOut × T)} {o : FOut} {t : T} (h : wF x fun o' t' => o' = o ∧ t' = t) : x = some (o, t) := by
  obtain ⟨_, _, e, rfl, rfl⟩ := h
  exact e
end
def fwA :=
  And.intro (@w_S) <| And.intro (@w_E) <| And.intro (@w_A) <| And.intro (@w_I) <| And.intro (@w_F) <| And.intro (@w_L) <| And.intro (@w_G) <| And.intro (@w_V) <| And.intro (@w_sqO) <| And.intro (@w_sqQ_nx) <| And.intro (@w_sqQ_rt) <| And.intro (@w_sqQ_bk) <| And.intro (@w_sqQ_ct) <| And.intro (@w_sqQ_ex) <| And.intro (@w_sbnd) <| And.intro (@w_sbQ) <| And.intro (@w_sbQ_ex) <| And.intro (@w_ifB) <| And.intro (@w_bnd) <| And.intro (@w_bnQ) <| And.intro (@w_bnQ_ex) <| And.intro (@w_abnd) <| And.intro (@w_abQ) <| And.intro (@w_abQ_ex) <| And.intro (@w_cnsA) <| And.intro (@w_cn2Q) <| And.intro (@w_cn2Q_ex) <| And.intro (@w_cnsK) <| And.intro (@w_cnQ) <| And.intro (@w_cnQ_ex) <| And.intro (@w_brB) <| And.intro (@w_fOut) <| And.intro (@w_foQ) <| And.intro (@w_foQ_ex) <| And.intro (@w_outF) <| And.intro (@w_ouQ_nx) <| And.intro (@w_ouQ_d) <| And.intro (@w_ouQ_f) <| And.intro (@w_ouQ_ex) <| And.intro (@w_dnO) <| And.intro (@w_siB) <| And.intro (@w_siQ) <| And.intro (@w_siQ_ex) <| And.intro (@w_ciB) <| And.intro (@w_ciQ) <| And.intro (@w_ciQ_ex) <| And.intro (@w_frO) <| And.intro (@w_frQ) <| And.intro (@w_frQ_ex) <| And.intro (@w_lcO) <| And.intro (@w_lcQ) <| And.intro (@w_lcQ_ex) <| And.intro (@w_lcR) <| And.intro (@w_dsp) <| And.intro (@w_tsQ) <| And.intro (@w_tsB) <| And.intro (@w_gvQ) <| And.intro (@w_gvB) <| And.intro (@w_flQ_nx) <| And.intro (@w_flQ_ct) <| And.intro (@w_flQ_bk) <| And.intro (@w_flQ_rt) (@w_flQ_ex)
end FD

/-! F31: several names at once, with own objects for all. -/
namespace FD
open PySem PySem.Spec PyProof.Rows L2
/-- an expression that sees no own objects: its datum, whether it is new -/
def blkV {T : Type} (g : EF T) (τ : List Sl) (t : T) : Option (D × Bool × T) := match g (hideFrom [] 0 τ, t) with
  | some (.ok (.f d), s2) => some (d, true, s2.2)
  | some (.ok r, s2) => match give s2.1 r with
    | some (d, _) => some (d, false, s2.2)
    | none => none
  | _ => none
def slot1 (d : D) (fr : Bool) : Sl := if fr = true then .o d else .v d
/-- a, b = e, f -/
def parBF {T : Type} (i j : Nat) (f g : EF T) : SF T := sbind f fun r s => match blkV g s.1 s.2 with
  | none => none
  | some (d, fr, t2) => match storeAt i s.1 r with
    | none => none
    | some τ1 => some (.nx, (τ1.set j (slot1 d fr), t2))
/-- a, b, c = e, f, [] -/
def parBNF {T : Type} (i j k : Nat) (f g : EF T) : SF T := sbind f fun r s => match blkV g s.1 s.2 with
  | none => none
  | some (d, fr, t2) => match storeAt i s.1 r with
    | none => none
    | some τ1 => some (.nx, ((τ1.set j (slot1 d fr)).set k (.o (.lst [])), t2))
section
variable {Z : Wd} {C : Fx Z} {X : Cx} {ow : Nat → Option Addr} {τ : List Sl} {t : Z.T} {σ : L2.St} {H H' : Hp} {E : Ends}
/-- what a block's expression hands back -/
def Back (Z : Wd) (O : Addr → Prop) (H : Hp) (d : D) (fr : Bool) (t2 : Z.T) (w : V) (H2 : Hp) : Prop :=
  Z.On t2 H2 ∧ GrowZ Z H H2 ∧ (fr = false → Den Z O H2 w d) ∧ (fr = true → ∃ p o, w = .ref p ∧ H p = none ∧ H2 p = some o ∧ (∀ xs, o ≠ .tup xs) ∧ Cont Z (fun a => O a ∨ a = p) H2 o d)
theorem Rel.block0 (R : C.Rel ow τ t σ H) : (blkFx (Z := Z) (C.Hid ow) H).Rel (fun _ => none) (hideFrom [] 0 τ) t σ H := R.block (vs := [])
theorem den_blk {O : Addr → Prop} {H1 H2 : Hp} {ow2 : Nat → Option Addr} {v : V} {d : D} (h : Den Z ((blkFx (Z := Z) O H1).Hid ow2) H2 v d) : Den Z O H2 v d := h.mono fun a o e n => ⟨e, fun z => n (.inl z)⟩
theorem block_run {g : EF Z.T} {d : D} {fr : Bool} {t2 : Z.T} (R : C.Rel ow τ t σ H) (e : blkV g τ t = some (d, fr, t2)) : tF (blkFx (Z := Z) (C.Hid ow) H) g σ H (Back Z (C.Hid ow) H d fr t2) := by
  have RB := R.block0
  unfold blkV at e
  have gz : ∀ {ow2 : Nat → Option Addr} {τ2 : List Sl} {t' : Z.T} {σ2 : L2.St} {H2 : Hp}, (blkFx (Z := Z) (C.Hid ow) H).Rel ow2 τ2 t' σ2 H2 → GrowZ Z H H2 := fun R2 a o e n => R2.grow a o e n
  split at e
  · rename_i d' s2 p
    cases e
    refine ⟨_, _, _, _, _, RB, rfl, p, fun ow' v H2 R2 r2 x2 => ?_⟩
    obtain ⟨a, o, h1, rfl, h3, c⟩ := r2
    obtain ⟨hn, u, e4, nt⟩ := R2.new _ a h1
    rw [h3] at e4
    cases e4
    exact ⟨R2.on, gz R2, (fun z => nomatch z), fun _ => ⟨a, o, rfl, hn, h3, nt, c.mono fun b u e n => ⟨e, fun z => n (z.elim (fun z => .inl z) fun z => by subst z; exact .inr ⟨0, h1⟩)⟩⟩⟩
  · rename_i r s2 nf p
    split at e
    · rename_i d' τ2 p2
      cases e
      refine ⟨_, _, _, _, _, RB, rfl, p, fun ow' v H2 R2 r2 x2 => ?_⟩
      obtain ⟨ow3, R3, z3, d3, x3⟩ := r2.give R2 p2
      exact ⟨R2.on, gz R2, fun _ => den_blk d3, (fun z => nomatch z)⟩
    · cases e
  · cases e
/-- the slots behind: i holds the first value, j the second -/
theorem store_back {r : Res} {v w : V} {τ1 : List Sl} {i j : Nat} {d : D} {fr : Bool} {t2 : Z.T} {H2 : Hp} (R : C.Rel ow τ t σ H) (r1 : ResOk C ow τ σ H v r) (e : storeAt i τ r = some τ1) (b : Back Z (C.Hid ow) H d fr t2 w H2) :
    ∃ ow', C.Rel ow' (τ1.set j (slot1 d fr)) t2 ((σ.set i (some v)).set j (some w)) H2 ∧ ow' 0 = none ∧ Ext (C.Hid ow) H (C.Hid ow') H2 := by
  obtain ⟨ow1, R1, z1, x1⟩ := R.store r1 e
  obtain ⟨on, gr, b1, b2⟩ := b
  have see : ∀ {H3 : Hp} (a : Addr) (o : HO), H3 a = some o → ¬ C.Hid ow a → ¬ C.Hid ow1 a := fun a o _ n q => by
    rcases x1.hid a q with h | h
    · exact n h
    · obtain ⟨u, e, _⟩ := R1.track q
      rw [h] at e
      cases e
  unfold slot1
  cases fr with
  | false =>
    rw [if_neg (by decide)]
    have R2 := R1.called on gr
    have d1 : Den Z (C.Hid ow1) H2 w d := (b1 rfl).mono fun a o e n => ⟨e, see (H3 := H2) a o e n⟩
    exact ⟨_, R2.set d1, drop_zero z1, (x1.trans (ext_grow R1 gr)).trans ext_drop⟩
  | true =>
    rw [if_pos rfl]
    obtain ⟨p, o, rfl, hn, e2, nt, c⟩ := b2 rfl
    have R2 := R1.adopt on gr hn e2 nt
    have c1 : Cont Z (C.Hid (put ow1 0 p)) H2 o d := by
      refine c.mono fun a u e n => ⟨e, fun q => ?_⟩
      rcases hid_put q with q | q
      · exact see (H3 := H2) a u e (fun z => n (.inl z)) q
      · exact n (.inr q)
    refine ⟨_, R2.setOwn put_same e2 c1, ?_, (x1.trans (ext_adopt R1 gr hn)).trans ext_move⟩
    unfold move
    rw [if_neg (by omega), if_pos rfl]
theorem parBN_of {i j l : Nat} {f g : EF Z.T} {K : V → V → V → Hp → Prop} (h : tS C (parBNF i j l f g) E σ H) (k : ∀ u v w ow' τ' t' H', C.Rel ow' τ' t' (((σ.set i (some u)).set j (some v)).set l (some w)) H' → ow' 0 = none → (∀ H2 ow2 τ2 t2, C.Rel ow2 τ2 t2 (((σ.set i (some u)).set j (some v)).set l (some w)) H2 → ow2 0 = none → Ext (C.Hid ow') H' (C.Hid ow2) H2 → (τ2, t2) = (τ', t') → E.nx (((σ.set i (some u)).set j (some v)).set l (some w)) H2) → K u v w H') :
    tF C f σ H fun u H1 => tFx Z g σ H1 fun v H2 => ([] : List V).length ≤ sizeLine ∧ ∀ p, H2 p = none → K u v (.ref p) (upd H2 p (.lst [])) := by
  obtain ⟨ow, τ, t, R, z, kn⟩ := h
  refine tF_mono (tS_bind ⟨ow, τ, t, R, z, kn⟩) fun v H1 ⟨ow1, τ1, t1, r, R1, r1, k1⟩ => ?_
  obtain ⟨o1, s1, e1, k1⟩ := k1
  simp only at e1
  split at e1
  · cases e1
  · rename_i d fr t2 p1
    split at e1
    · cases e1
    · rename_i τ2 p2
      cases e1
      refine ⟨_, rfl, tF_mono (block_run R1 p1) fun w H2 b => ⟨Nat.zero_le _, fun p hp => ?_⟩⟩
      obtain ⟨ow3, R3, z3, x3⟩ := store_back (j := j) R1 r1 p2 b
      have R4 := R3.pend (o := .lst []) z3 hp (fun _ q => nomatch q)
      have R5 := R4.setOwn (i := l) (d := .lst []) put_same upd_same (.lst .nil)
      refine k v w _ _ _ _ _ R5 ?_ fun H3 ow4 τ4 t4 R4 z4 x4 e => by
        cases e
        exact k1 ow4 _ H3 R4 z4 (((x3.trans (ext_put hp)).trans ext_move).trans x4)
      unfold move
      rw [if_neg (by omega), if_pos rfl]
theorem sv_parBN {i j l : Nat} {x y z : Str} {a b : Expr} {f g : EF Z.T} {px py pz pt pos pe : Pos} {kt k2 pt2} (hc : X.calm = true) (hN : X.N.Nodup) (hi : X.N[i]? = some x) (hj : X.N[j]? = some y) (hl : X.N[l]? = some z) (hij : i ≠ j) (hil : i ≠ l) (hjl : j ≠ l)
    (hx : X.env.scope.names.lookup x = some .local) (hy : X.env.scope.names.lookup y = some .local) (hz : X.env.scope.names.lookup z = some .local) (ha : PE X a (tF C f)) (hb : ∀ C : Fx Z, C.W = dead → PE X b (tF C g))
    (hw : swappedStores [.Tuple [.Name x px, .Name y py, .Name z pz] kt pt] (.Tuple [a, b, .List [] pe] k2 pt2) X.env = pure (some [x, y, z]))
    (hs : swapsWithSole [.Tuple [.Name x px, .Name y py, .Name z pz] kt pt] (.Tuple [a, b, .List [] pe] k2 pt2) pos.line X.env = pure false := by rfl)
    (h1 : starEach [a, b, .List [] pe] X.env = (false, eval a X.env) :: starEach [b, .List [] pe] X.env := by rfl) (h2 : starEach [b, .List [] pe] X.env = (false, eval b X.env) :: starEach [.List [] pe] X.env := by rfl) :
    PS X (.Assign [.Tuple [.Name x px, .Name y py, .Name z pz] kt pt] (.Tuple [a, b, .List [] pe] k2 pt2) pos) (tS C (parBNF i j l f g)) :=
  ⟨fun pins s σ H E I h => (ps_par3 hc hN hi hj hl hij hil hjl hx hy hz (pa_cons ha (pa_cons (ex_F hb) (pa_cons (pe_lst pa_nil) pa_nil) h2) h1) hw hs).run pins s σ H E I
    (parBN_of (K := fun u v w H2 => ∃ u' v' w', [u, v, w] = [u', v', w'] ∧ E.nx (((σ.set i (some u')).set j (some v')).set l (some w')) H2) h fun u v w ow' τ' t' H' R z k => ⟨u, v, w, rfl, k H' ow' τ' t' R z .refl rfl⟩)⟩
end
/-- a, b, c = e, constant, constant -/
def par3CF {T : Type} (i j l : Nat) (f : EF T) (d1 d2 : D) : SF T := sbind f fun r s => match storeAt i s.1 r with
  | none => none
  | some τ1 => some (.nx, ((τ1.set j (.v d1)).set l (.v d2), s.2))
section
variable {Z : Wd} {C : Fx Z} {X : Cx}
def p3K {T : Type} (i j l : Nat) (d1 d2 : D) (t : T) : Option (List Sl) → Option (SOut × Sg T)
  | none => none
  | some τ1 => some (.nx, ((τ1.set j (.v d1)).set l (.v d2), t))
def p3R {T : Type} (i j l : Nat) (d1 d2 : D) (r : Res) : SF T := fun s => p3K i j l d1 d2 s.2 (storeAt i s.1 r)
theorem q_par3C {T : Type} {i j l : Nat} {f : EF T} {d1 d2 : D} {s : Sg T} : par3CF i j l f d1 d2 s = sbnd (p3R i j l d1 d2) (f s) := (rfl)
theorem q_p3R {T : Type} {i j l : Nat} {d1 d2 : D} {r : Res} {s : Sg T} : p3R i j l d1 d2 r s = p3K i j l d1 d2 s.2 (storeAt i s.1 r) := (rfl)
theorem q_p3K {T : Type} {i j l : Nat} {d1 d2 : D} {t : T} {τ1 : List Sl} : p3K i j l d1 d2 t (some τ1) = some (.nx, ((τ1.set j (.v d1)).set l (.v d2), t)) := (rfl)
end
/-! ### run by simp -/
section
variable {T : Type}
def bvG (t : T) : Option (D × List Sl) → Option (D × Bool × T)
  | some (d, _) => some (d, false, t)
  | none => none
def bvO : Option (Out × Sg T) → Option (D × Bool × T)
  | some (.ok (.f d), s2) => some (d, true, s2.2)
  | some (.ok (.d d), s2) => some (d, false, s2.2)
  | some (.ok (.s i), s2) => bvG s2.2 (give s2.1 (.s i))
  | _ => none
theorem q_blkV {g : EF T} {τ : List Sl} {t : T} : blkV g τ t = bvO (g (hideFrom [] 0 τ, t)) := by
  unfold blkV bvO bvG
  rcases g (hideFrom [] 0 τ, t) with _ | ⟨(_ | _ | _) | _, _⟩ <;> rfl
theorem q_bvO_f {d : D} {s : Sg T} : bvO (some (.ok (.f d), s)) = some (d, true, s.2) := (rfl)
theorem q_bvO_d {d : D} {s : Sg T} : bvO (some (.ok (.d d), s)) = some (d, false, s.2) := (rfl)
theorem q_bvO_s {i : Nat} {s : Sg T} : bvO (some (.ok (.s i), s)) = bvG s.2 (give s.1 (.s i)) := (rfl)
theorem q_bvG {d : D} {τ : List Sl} {t : T} : bvG t (some (d, τ)) = some (d, false, t) := (rfl)
theorem q_slot1_t {d : D} : slot1 d true = .o d := (rfl)
theorem q_slot1_f {d : D} : slot1 d false = .v d := (rfl)
def pb1 (j : Nat) (d : D) (fr : Bool) (t2 : T) : Option (List Sl) → Option (SOut × Sg T)
  | none => none
  | some τ1 => some (.nx, (τ1.set j (slot1 d fr), t2))
def pbO (i j : Nat) (r : Res) (τ : List Sl) : Option (D × Bool × T) → Option (SOut × Sg T)
  | none => none
  | some (d, fr, t2) => pb1 j d fr t2 (storeAt i τ r)
def pbK (i j : Nat) (g : EF T) (r : Res) : SF T := fun s => pbO i j r s.1 (blkV g s.1 s.2)
theorem q_parB {i j : Nat} {f g : EF T} {s : Sg T} : parBF i j f g s = sbnd (pbK i j g) (f s) := by
  unfold parBF sbind sbnd pbK pbO pb1
  rcases f s with _ | ⟨_ | _, _⟩ <;> rfl
theorem q_pbK {i j : Nat} {g : EF T} {r : Res} {s : Sg T} : pbK i j g r s = pbO i j r s.1 (blkV g s.1 s.2) := (rfl)
theorem q_pbO {i j : Nat} {r : Res} {τ : List Sl} {d : D} {fr : Bool} {t2 : T} : pbO i j r τ (some (d, fr, t2)) = pb1 j d fr t2 (storeAt i τ r) := (rfl)
theorem q_pb1 {j : Nat} {d : D} {fr : Bool} {t2 : T} {τ1 : List Sl} : pb1 j d fr t2 (some τ1) = some (.nx, (τ1.set j (slot1 d fr), t2)) := (rfl)
def pb2 (j k : Nat) (d : D) (fr : Bool) (t2 : T) : Option (List Sl) → Option (SOut × Sg T)
  | none => none
  | some τ1 => some (.nx, ((τ1.set j (slot1 d fr)).set k (.o (.lst [])), t2))
def pnO (i j k : Nat) (r : Res) (τ : List Sl) : Option (D × Bool × T) → Option (SOut × Sg T)
  | none => none
  | some (d, fr, t2) => pb2 j k d fr t2 (storeAt i τ r)
def pnK3 (i j k : Nat) (g : EF T) (r : Res) : SF T := fun s => pnO i j k r s.1 (blkV g s.1 s.2)
theorem q_parBN {i j k : Nat} {f g : EF T} {s : Sg T} : parBNF i j k f g s = sbnd (pnK3 i j k g) (f s) := by
  unfold parBNF sbind sbnd pnK3 pnO pb2
  rcases f s with _ | ⟨_ | _, _⟩ <;> rfl
theorem q_pnK3 {i j k : Nat} {g : EF T} {r : Res} {s : Sg T} : pnK3 i j k g r s = pnO i j k r s.1 (blkV g s.1 s.2) := (rfl)
theorem q_pnO {i j k : Nat} {r : Res} {τ : List Sl} {d : D} {fr : Bool} {t2 : T} : pnO i j k r τ (some (d, fr, t2)) = pb2 j k d fr t2 (storeAt i τ r) := (rfl)
theorem q_pb2 {j k : Nat} {d : D} {fr : Bool} {t2 : T} {τ1 : List Sl} : pb2 j k d fr t2 (some τ1) = some (.nx, ((τ1.set j (slot1 d fr)).set k (.o (.lst [])), t2)) := (rfl)
/-! what holds behind -/
def pbQ (i j : Nat) (r : Res) (τ : List Sl) (Q : SOut → Sg T → Prop) : Out → Sg T → Prop
  | .ok r2, s2 => wS (pbO i j r τ (bvO (some (.ok r2, s2)))) Q
  | .ex _ _, _ => False
theorem w_pbO {i j : Nat} {r : Res} {τ : List Sl} {x : Option (Out × Sg T)} {Q : SOut → Sg T → Prop} : wS (pbO i j r τ (bvO x)) Q = wE x (pbQ i j r τ Q) := by
  rcases x with _ | ⟨o, s⟩
  · exact propext ⟨fun ⟨_, _, e, _⟩ => (nomatch e), fun ⟨_, _, e, _⟩ => (nomatch e)⟩
  · rw [w_E]
    cases o with
    | ok r => rfl
    | ex c fs => exact propext ⟨fun ⟨_, _, e, _⟩ => (nomatch e), fun e => e.elim⟩
theorem w_pbQ {i j : Nat} {r r2 : Res} {τ : List Sl} {s : Sg T} {Q : SOut → Sg T → Prop} : pbQ i j r τ Q (.ok r2) s = wS (pbO i j r τ (bvO (some (.ok r2, s)))) Q := (rfl)
def pnQ (i j k : Nat) (r : Res) (τ : List Sl) (Q : SOut → Sg T → Prop) : Out → Sg T → Prop
  | .ok r2, s2 => wS (pnO i j k r τ (bvO (some (.ok r2, s2)))) Q
  | .ex _ _, _ => False
theorem w_pnO {i j k : Nat} {r : Res} {τ : List Sl} {x : Option (Out × Sg T)} {Q : SOut → Sg T → Prop} : wS (pnO i j k r τ (bvO x)) Q = wE x (pnQ i j k r τ Q) := by
  rcases x with _ | ⟨o, s⟩
  · exact propext ⟨fun ⟨_, _, e, _⟩ => (nomatch e), fun ⟨_, _, e, _⟩ => (nomatch e)⟩
  · rw [w_E]
    cases o with
    | ok r => rfl
    | ex c fs => exact propext ⟨fun ⟨_, _, e, _⟩ => (nomatch e), fun e => e.elim⟩
theorem w_pnQ {i j k : Nat} {r r2 : Res} {τ : List Sl} {s : Sg T} {Q : SOut → Sg T → Prop} : pnQ i j k r τ Q (.ok r2) s = wS (pnO i j k r τ (bvO (some (.ok r2, s)))) Q := (rfl)
end
/-! ### chains -/
section
variable {T : Type}
def chR (op' : D → D → Option (D × Bool)) (rb : Res) (rc : Res) : EF T := fun s => dnO s (op2 op' (peek s.1 (hold rb)) (peek s.1 (hold rc)))
def chB (op' : D → D → Option (D × Bool)) (h : EF T) (rb : Res) (s : Sg T) : Option (D × Bool) → Option (Out × Sg T)
  | some (.bl true, false) => bnd (chR op' rb) (h s)
  | some (.bl false, false) => some (.ok (.d (.bl false)), s)
  | _ => none
def chK2 (op op' : D → D → Option (D × Bool)) (h : EF T) (ra rb : Res) : EF T := fun s => chB op' h rb s (op2 op (peek s.1 (hold ra)) (peek s.1 (hold rb)))
def chK (op op' : D → D → Option (D × Bool)) (g h : EF T) (ra : Res) : EF T := fun s => bnd (chK2 op op' h ra) (g s)
theorem bind_bnd {f : EF T} {k : Res → EF T} {s : Sg T} : bindF f k s = bnd k (f s) := by
  unfold bindF bnd
  rcases f s with _ | ⟨_ | _, _⟩ <;> rfl
theorem q_chain {op op' : D → D → Option (D × Bool)} {f g h : EF T} {s : Sg T} : chainF op op' f g h s = bnd (chK op op' g h) (f s) := by
  unfold chainF
  rw [bind_bnd]
  congr 1
  funext ra s1
  rw [bind_bnd]
  unfold chK
  congr 1
  funext rb s2
  unfold chK2 op2
  cases peek s2.1 (hold ra) with
  | none => rfl
  | some x =>
    cases peek s2.1 (hold rb) with
    | none => rfl
    | some y =>
      simp only
      rcases op x y with _ | ⟨_ | (_ | _) | _ | _ | _ | _ | _ | _ | _ | _, _ | _⟩ <;> try rfl
theorem q_chK {op op' : D → D → Option (D × Bool)} {g h : EF T} {ra : Res} {s : Sg T} : chK op op' g h ra s = bnd (chK2 op op' h ra) (g s) := (rfl)
theorem q_chK2 {op op' : D → D → Option (D × Bool)} {h : EF T} {ra rb : Res} {s : Sg T} : chK2 op op' h ra rb s = chB op' h rb s (op2 op (peek s.1 (hold ra)) (peek s.1 (hold rb))) := (rfl)
theorem q_chB_t {op' : D → D → Option (D × Bool)} {h : EF T} {rb : Res} {s : Sg T} : chB op' h rb s (some (.bl true, false)) = bnd (chR op' rb) (h s) := (rfl)
theorem q_chB_f {op' : D → D → Option (D × Bool)} {h : EF T} {rb : Res} {s : Sg T} : chB op' h rb s (some (.bl false, false)) = some (.ok (.d (.bl false)), s) := (rfl)
theorem q_chR {op' : D → D → Option (D × Bool)} {rb rc : Res} {s : Sg T} : chR op' rb rc s = dnO s (op2 op' (peek s.1 (hold rb)) (peek s.1 (hold rc))) := (rfl)
theorem w_chB {op' : D → D → Option (D × Bool)} {h : EF T} {rb : Res} {s : Sg T} {b : Bool} {Q : Out → Sg T → Prop} : wE (chB op' h rb s (some (.bl b, false))) Q = ((b = true → wE (bnd (chR op' rb) (h s)) Q) ∧ (b = false → Q (.ok (.d (.bl false))) s)) := by
  cases b
  · exact propext ⟨fun k => ⟨(fun z => nomatch z), fun _ => by rw [q_chB_f, w_E] at k; exact k⟩, fun k => by rw [q_chB_f, w_E]; exact k.2 rfl⟩
  · exact propext ⟨fun k => ⟨fun _ => k, (fun z => nomatch z)⟩, fun k => k.1 rfl⟩
end
def fxA := And.intro (@q_blkV) <| And.intro (@q_bvO_f) <| And.intro (@q_bvO_d) <| And.intro (@q_bvO_s) <| And.intro (@q_bvG) <| And.intro (@q_slot1_t) <| And.intro (@q_slot1_f) <| And.intro (@q_parB) <| And.intro (@q_pbK) <| And.intro (@q_pbO) <| And.intro (@q_pb1) <| And.intro (@q_parBN) <| And.intro (@q_pnK3) <| And.intro (@q_pnO) <| And.intro (@q_pb2) <| And.intro (@q_chain) <| And.intro (@q_chK) <| And.intro (@q_chK2) <| And.intro (@q_chB_t) <| And.intro (@q_chB_f) <| And.intro (@q_chR) <| And.intro (@q_par3C) <| And.intro (@q_p3R) (@q_p3K)
def fyA := And.intro (@w_pbO) <| And.intro (@w_pbQ) <| And.intro (@w_pnO) <| And.intro (@w_pnQ) (@w_chB)
end FD

/-! F32: own classes: fields read, objects made, fields of own objects stored. -/
namespace FD
open PySem PySem.Spec PyProof.Rows L2
def fldD (c f : Str) : D → Option (D × Bool)
  | .obj c' fs => if c' = c then (match fs.lookup f with | some d => some (d, false) | none => none) else none
  | _ => none
def fldF {T : Type} (c f : Str) (fa : EF T) : EF T := unF (fldD c f) fa
def putD (f : Str) (d : D) : List (Str × D) → List (Str × D)
  | [] => [(f, d)]
  | (g, x) :: r => if g = f then (g, d) :: r else (g, x) :: putD f d r
def stFld (i : Nat) (c f : Str) (t : Sg T → Sg T) (d : D) (τ : List Sl) : Option Sl → Option (List Sl)
  | some (.o (.obj c' fs)) => if c' = c ∧ fs.length < 1000 then some (τ.set i (.o (.obj c (putD f d fs)))) else none
  | _ => none
/-- x.f = e, where x's object is no one else's -/
def setFldF {T : Type} (i : Nat) (c f : Str) (fv : EF T) : SF T := sbind fv fun r s => match give s.1 r with
  | none => none
  | some (d, τ1) => match stFld (T := T) i c f id d τ1 τ1[i]? with
    | none => none
    | some τ2 => some (.nx, (τ2, s.2))
section
variable {Z : Wd} {C : Fx Z} {X : Cx} {ow : Nat → Option Addr} {τ : List Sl} {t : Z.T} {σ : L2.St} {H H' : Hp}
theorem DenF.put {O : Addr → Prop} {f : Str} {v : V} {d : D} (h : Den Z O H v d) : ∀ {vs : List (Str × V)} {ds : List (Str × D)}, DenF Z O H vs ds → DenF Z O H (putF f v vs) (putD f d ds)
  | _, _, .nil => .cons h .nil
  | (k, w) :: vs, (_, e) :: ds, .cons hw r => by
    unfold putF putD
    split
    · exact .cons h r
    · exact .cons hw (DenF.put h r)
theorem DenF.len {O : Addr → Prop} : ∀ {vs : List (Str × V)} {ds : List (Str × D)}, DenF Z O H vs ds → vs.length = ds.length
  | _, _, .nil => rfl
  | _, _, .cons _ r => by rw [List.length_cons, List.length_cons, DenF.len r]
/-! ### objects made -/
end
/-! ### run by simp -/
section
variable {T : Type}
theorem q_fld {c f : Str} {fa : EF T} {s : Sg T} : fldF c f fa s = unF (fldD c f) fa s := (rfl)
def sfO (s : Sg T) : Option (List Sl) → Option (SOut × Sg T)
  | none => none
  | some τ2 => some (.nx, (τ2, s.2))
def sfG (i : Nat) (c f : Str) (s : Sg T) : Option (D × List Sl) → Option (SOut × Sg T)
  | none => none
  | some (d, τ1) => sfO s (stFld (T := T) i c f id d τ1 τ1[i]?)
def sfK (i : Nat) (c f : Str) (r : Res) : SF T := fun s => sfG i c f s (give s.1 r)
theorem q_setFld {i : Nat} {c f : Str} {fv : EF T} {s : Sg T} : setFldF i c f fv s = sbnd (sfK i c f) (fv s) := by
  unfold setFldF sbind sbnd sfK sfG sfO
  rcases fv s with _ | ⟨_ | _, _⟩ <;> rfl
theorem q_sfK {i : Nat} {c f : Str} {r : Res} {s : Sg T} : sfK i c f r s = sfG i c f s (give s.1 r) := (rfl)
theorem q_sfG {i : Nat} {c f : Str} {s : Sg T} {d : D} {τ1 : List Sl} : sfG i c f s (some (d, τ1)) = sfO s (stFld (T := T) i c f id d τ1 τ1[i]?) := (rfl)
theorem q_sfO {s : Sg T} {τ2 : List Sl} : sfO s (some τ2) = some (.nx, (τ2, s.2)) := (rfl)
end
end FD

/-! F33: __init__: the fields of self, one after the other. -/
namespace FD
open PySem PySem.Spec PyProof.Rows L2
/-- x holds the fields fs -/
structure IS (Z : Wd) (O : Addr → Prop) (H0 : Hp) (t : Z.T) (c : Str) (x dx : Addr) (fs : List (Str × D)) (H : Hp) : Prop where
  on : Z.On t H
  gr : GrowZ Z H0 H
  at_ : ∃ vs, H x = some (.ins (Z.ca c) dx vs) ∧ DenF Z (fun b => O b ∨ b = x) H vs fs
  nx : H0 x = none
  hid : ∀ a, Z.hid a → O a
  old : ∀ a, O a → ∃ o, H0 a = some o ∧ ∀ xs, o ≠ .tup xs
section
variable {Z : Wd} {O : Addr → Prop} {H0 H : Hp} {t : Z.T} {c : Str} {x dx : Addr} {fs : List (Str × D)}
theorem IS.hidx (S : IS Z O H0 t c x dx fs H) {a : Addr} (h : O a) : a ≠ x := fun e => by
  obtain ⟨o, e1, _⟩ := S.old a h
  rw [e, S.nx] at e1
  cases e1
theorem IS.put {f : Str} {v : V} {d : D} {vs : List (Str × V)} (S : IS Z O H0 t c x dx fs H) (e : H x = some (.ins (Z.ca c) dx vs)) (q : DenF Z (fun b => O b ∨ b = x) H vs fs) (dv : Den Z (fun b => O b ∨ b = x) H v d) :
    IS Z O H0 t c x dx (putD f d fs) (upd H x (.ins (Z.ca c) dx (putF f v vs))) where
  on := Z.loc t H _ S.on fun a o h e1 => by
    rw [upd_ne (fun z => ?_)]
    · exact e1
    · rcases h with h | ⟨φ, rfl⟩
      · exact S.hidx (S.hid a h) z
      · rw [z, e] at e1
        cases e1
  gr := fun a o e n => by
    rw [upd_ne (ne_of_none e S.nx)]
    exact S.gr a o e n
  at_ := ⟨_, upd_same, (DenF.put dv q).mono fun a o e n => ⟨by rw [upd_ne fun z => n (.inr z)]; exact e, n⟩⟩
  nx := S.nx
  hid := S.hid
  old := S.old
theorem IS.new {p : Addr} {o : HO} (S : IS Z O H0 t c x dx fs H) (h : H p = none) : IS Z O H0 t c x dx fs (upd H p o) where
  on := Z.loc t H _ S.on fun a u _ e => Grow.new h a u e
  gr := fun a u e n => Grow.new h a u (S.gr a u e n)
  at_ := by
    obtain ⟨vs, e, q⟩ := S.at_
    exact ⟨vs, Grow.new h _ _ e, q.mono fun a u e n => ⟨Grow.new h a u e, n⟩⟩
  nx := S.nx
  hid := S.hid
  old := S.old
variable {X : Cx} {σ : L2.St} {E : Ends}
/-- where __init__ begins -/
theorem IS.begin (nx : H0 x = none) (ndx : H0 dx = none) (ne : dx ≠ x) (h1 : ∀ a, Z.hid a → O a) (h2 : ∀ a, O a → ∃ o, H0 a = some o ∧ ∀ xs, o ≠ .tup xs) (on : Z.On t H0) : IS Z O H0 t c x dx [] (upd (upd H0 dx (.own x)) x (.ins (Z.ca c) dx [])) where
  on := Z.loc t H0 _ on fun a o _ e => by rw [upd_ne (ne_of_none e nx), upd_ne (ne_of_none e ndx)]; exact e
  gr := fun a o e _ => by rw [upd_ne (ne_of_none e nx), upd_ne (ne_of_none e ndx)]; exact e
  at_ := ⟨[], upd_same, .nil⟩
  nx := nx
  hid := h1
  old := h2
end
end FD

/-! F34: own exceptions raised. -/
namespace FD
open PySem PySem.Spec PyProof.Rows L2
/-- what the written part says of a class X(e) and of its __init__, whose text is s; f: the field -/
structure ErrC (K : PySem.W.Frag) (mg : Str → Option Value) (x ql f : Str) (s : Stmt) where
  C : Addr
  fI : Addr
  fd : FuncData
  g : mg x = some (.ref C)
  ox : OexC K C
  iC : PySem.W.findIn K (.ref C) "__init__" = some (some (.ref fI))
  tI : PySem.W.typeIn K (.ref fI) = some (.type "function")
  F : Fun K "__init__" ql s fI fd
  b : Binds K fd ["self", f] []
  no : PySem.W.findIn K (.ref C) f = some none
  xf : XfC K C
  ec : ExcC K C
/-- a class of exceptions without __init__ -/
structure PlainC (K : PySem.W.Frag) (mg : Str → Option Value) (x : Str) where
  C : Addr
  g : mg x = some (.ref C)
  ex : PySem.W.excIn K C [.type "ValueError", .type "Exception", .type "BaseException", .type "object"] "ValueError.__new__" = true
  kC : PySem.W.keepIn K (.ref C) = true
  ec : ExcC K C
  ty : PySem.W.typeIn K (.ref C) = some (.type "type")
def sp_init (K : PySem.W.Frag) (C : Addr) (f : Str) : Sp := fun vs H Q _ => ∃ (a : Addr) (v : V), vs = [.ref a, v] ∧ OexC K C ∧ PySem.W.findIn K (.ref C) f = some none ∧ H a = some (exo a C none) ∧
  ∀ dx, H dx = none → dx ≠ a → Q .non (upd (upd H dx (exd dx [(f, v)])) a (exo a C (some dx)))
theorem let_out {K : PySem.W.Frag} {C : Addr} {f : Str} {v : V} {H : Hp} {W : WX} {σ : L2.St} (ox : OexC K C) (no : PySem.W.findIn K (.ref C) f = some none) (h : ∀ d H', H d = none → Grow H H' → H' d = some (.xd [(f, v)]) → W (.ref C) (some d) σ H') :
    [v].length ≤ 1000 ∧ ∀ a, H a = none → sp_init K C f (.ref a :: ([v] ++ [])) (upd H a (exo a C none))
      (fun z H2 => z = .non ∧ ∃ (d : Addr) (fs : List (Str × V)), H2 a = some (exo a C (some d)) ∧ H2 d = some (exd d fs) ∧ H d = none ∧ W (.ref C) (some d) σ (upd (del H2 a) d (.xd fs))) (fun _ _ _ => False) := by
  refine ⟨by simp, fun a na => ⟨a, v, rfl, ox, no, upd_same, fun dx nd hne => ⟨rfl, dx, [(f, v)], upd_same, ?_, ?_, ?_⟩⟩⟩
  · rw [upd_ne hne, upd_same]
  · rw [upd_ne hne] at nd
    exact nd
  · refine h dx _ ?_ ?_ upd_same
    · rw [upd_ne hne] at nd
      exact nd
    · rw [upd_ne hne] at nd
      intro b x e
      have n1 : b ≠ dx := ne_of_none e nd
      have n2 : b ≠ a := ne_of_none e na
      rw [upd_ne n1, del_ne n2, upd_ne n2, upd_ne n1, upd_ne n2]
      exact e
/-- raise X(e) -/
def raiseF {T : Type} (x f : Str) (fa : EF T) : SF T := sbind fa fun r s => match give s.1 r with
  | none => none
  | some (d, τ1) => some (.ex x [(f, d)], (τ1, s.2))
def raise0F {T : Type} (x : Str) : SF T := fun s => some (.ex x [], s)
section
variable {Z : Wd} {C : Fx Z} {X : Cx} {ow : Nat → Option Addr} {τ : List Sl} {t : Z.T} {σ : L2.St} {H H' : Hp}
theorem tA_one {fa : EF Z.T} {Q : List V → Hp → Prop} (h : tF C fa σ H fun v H1 => Q [v] H1) : tCons (tF C fa) tNil σ H Q := tF_mono h fun v H1 q => q
theorem sv_raise {x ql f : Str} {st : Stmt} {e : Expr} {fa : EF Z.T} {p pos pos' : Pos} (T : ErrC X.K X.mg x ql f st) (hca : Z.ca x = T.C) (G : FnOk X.prog X.w X.K X.mg X.base L2.CX0 1 T.fI T.fd ["self", f] (sp_init X.K T.C f)) (hc : X.calm = true)
    (hr : Room 2 X.A) (tk : Takes X C.W) (hg : Gl X x) (ha : PE X e (tF C fa)) (hdb : (x == ("__debug__" : Str)) = false := by decide)
    (he : starEach [e] X.env = (false, eval e X.env) :: starEach [] X.env := by rfl) (hpl : (backTo pos (starEach [] X.env)).any (·.1) = false := by rfl) :
    PS X (.Raise (some (.Call (.Name x p) [e] [] pos)) none pos') (tS C (raiseF x f fa)) :=
  ⟨fun pins s σ H E I h => (ps_raise hc tk (pmk_oex T.ox T.iC T.tI G hr T.b .nil pass0 hg T.g (pa_cons ha pa_nil he) hdb he hpl)).run pins s σ H E I (by
    obtain ⟨ow, τ, t, R, z, kn⟩ := h
    refine tA_one (tF_mono (tS_bind ⟨ow, τ, t, R, z, kn⟩) fun v H1 ⟨ow1, τ1, t1, r, R1, r1, k1⟩ => ?_)
    obtain ⟨o1, s1, e1, k1⟩ := k1
    simp only at e1
    split at e1
    · cases e1
    · rename_i d τ2 p1
      cases e1
      obtain ⟨ow2, R2, z2, dn, x2⟩ := r1.give R1 p1
      refine let_out (W := C.W) T.ox T.no fun dd H2 nd gr ed => ?_
      rw [← hca]
      refine k1 ow2 σ (some dd) H2 (R2.grown gr) z2 (x2.trans gr.ext) ⟨_, ed, R2.nohid nd, .cons (dn.ext gr.ext) .nil⟩)⟩
end
/-! ### run by simp -/
section
variable {T : Type}
def raO (x f : Str) (s : Sg T) : Option (D × List Sl) → Option (SOut × Sg T)
  | none => none
  | some (d, τ1) => some (.ex x [(f, d)], (τ1, s.2))
def raK (x f : Str) (r : Res) : SF T := fun s => raO x f s (give s.1 r)
theorem q_raise {x f : Str} {fa : EF T} {s : Sg T} : raiseF x f fa s = sbnd (raK x f) (fa s) := by
  unfold raiseF sbind sbnd raK raO
  rcases fa s with _ | ⟨_ | _, _⟩ <;> rfl
theorem q_raK {x f : Str} {r : Res} {s : Sg T} : raK x f r s = raO x f s (give s.1 r) := (rfl)
theorem q_raO {x f : Str} {s : Sg T} {d : D} {τ1 : List Sl} : raO x f s (some (d, τ1)) = some (.ex x [(f, d)], (τ1, s.2)) := (rfl)
theorem q_raise0 {x : Str} {s : Sg T} : raise0F x s = some (.ex x [], s) := (rfl)
end
end FD

/-! F35: try, except, what the suite sees of the exception. -/
namespace FD
open PySem PySem.Spec PyProof.Rows L2
/-- behind a body's exception that a clause may catch: m says whether the named class catches it -/
def tryF {T : Type} (m : Str → Option Bool) (f : SF T) (g : SF T) : SF T := fun s => match f s with
  | some (.ex c fs, s1) => match m c with
    | some true => match g s1 with
      | some (.ex _ _, _) => none
      | r => r
    | some false => some (.ex c fs, s1)
    | none => none
  | r => r
def noX (τ : List Sl) : Bool := τ.all fun s => match s with
  | .x => false
  | _ => true
/-- the exception's name goes -/
def unX {T : Type} (i : Nat) : Option (SOut × Sg T) → Option (SOut × Sg T)
  | some (.nx, s) => if noX (s.1.set i .no) = true then some (.nx, (s.1.set i .no, s.2)) else none
  | some (.rt (.d d), s) => if noX (s.1.set i .no) = true then some (.rt (.d d), (s.1.set i .no, s.2)) else none
  | some (.rt (.f d), s) => if noX (s.1.set i .no) = true then some (.rt (.f d), (s.1.set i .no, s.2)) else none
  | _ => none
/-- .. as n, n in slot i -/
def tryAsF {T : Type} (i : Nat) (m : Str → Option Bool) (f : SF T) (g : Str → List (Str × D) → SF T) : SF T := fun s => match f s with
  | some (.ex c fs, s1) => match m c with
    | some true => if noX s1.1 = true then unX i (g c fs (s1.1.set i .x, s1.2)) else none
    | some false => some (.ex c fs, s1)
    | none => none
  | r => r
/-- n.f -/
def exfF {T : Type} (i : Nat) (k f : Str) (c : Str) (fs : List (Str × D)) : EF T := fun s => match s.1[i]? with
  | some .x => if c = k then (match fs.lookup f with
    | some d => some (.ok (.d d), s)
    | none => none) else none
  | _ => none
/-- isinstance(n, ..) -/
def exiF {T : Type} (i : Nat) (b : Option Bool) : EF T := fun s => match s.1[i]?, b with
  | some .x, some b => some (.ok (.d (.bl b)), s)
  | _, _ => none
abbrev Fx.suite {Z : Wd} (C : Fx Z) (a : Addr) (d : Option Addr) (fs : List (Str × D)) : Fx Z := ⟨C.O, C.H, dead, ⟨.ref a, d, fs⟩⟩
section
variable {Z : Wd} {C : Fx Z} {X : Cx} {ow : Nat → Option Addr} {τ : List Sl} {t : Z.T} {σ : L2.St} {H H' : Hp} {E : Ends}
/-! ### with the exception's name -/
theorem noX_at {τ : List Sl} (h : noX τ = true) {i : Nat} (e : τ[i]? = some .x) : False := by
  have := List.all_eq_true.mp h _ (List.mem_of_getElem? e)
  cases this
/-- the name is set -/
theorem Rel.named {i : Nat} {a : Addr} {d : Option Addr} {fs : List (Str × D)} (R : C.Rel ow τ t σ H) (hn : noX τ = true) (eo : ExOk Z (C.Hid ow) H d fs) : ∃ ow', (C.suite a d fs).Rel ow' (τ.set i .x) t (σ.set i (some (.ref a))) H ∧ (ow 0 = none → ow' 0 = none) ∧ Ext (C.Hid ow) H (C.Hid ow') H := by
  refine ⟨drop ow (i + 1), ⟨R.on, R.hid, R.hidT, R.grow, by rw [List.length_set, List.length_set]; exact R.len, fun j s q => ?_, fun i j a h1 h2 => R.inj i j a (drop_some h1).1 (drop_some h2).1, fun i a h => R.new i a (drop_some h).1⟩, fun z => drop_zero z, ext_drop⟩
  by_cases e : j = i
  · subst e
    have hl : j < τ.length := by
      have := (List.getElem?_eq_some_iff.mp q).1
      rwa [List.length_set] at this
    rw [List.getElem?_set_self hl] at q
    cases q
    exact ⟨List.getElem?_set_self (by rw [← R.len]; exact hl), eo.mono ext_drop.see⟩
  · rw [List.getElem?_set_ne (Ne.symm e)] at q
    have := (R.slot j s q).ext (ow' := drop ow (i + 1)) (ext_drop (i := i + 1)) fun a h => ⟨by rw [drop_ne (by omega)]; exact h, rfl⟩
    cases s with
    | no => trivial
    | x => exact (noX_at hn q).elim
    | v d =>
      obtain ⟨v', e1, e2⟩ := this
      exact ⟨v', by rw [List.getElem?_set_ne (Ne.symm e)]; exact e1, e2⟩
    | o d =>
      obtain ⟨a, o, e1, e2, e3, c⟩ := this
      exact ⟨a, o, e1, by rw [List.getElem?_set_ne (Ne.symm e)]; exact e2, e3, c⟩
/-! ### in the suite -/
end
end FD

/-! F36: comprehensions over two walks. -/
namespace FD
open PySem PySem.Spec PyProof.Rows L2
def lc2L {T : Type} (g : GF) (it1 : IF T) (vs1 : List Nat) (g1 : GF) (c1 e : EF T) (τ0 : List Sl) : List D → T → Option (List D × T)
  | [], t => some ([], t)
  | d :: ds, t => match g d τ0 with
    | none => none
    | some τ1 => match it1 (τ1, t) with
      | some (.ok ds1, s3) => match lcL g1 c1 e (hideFrom vs1 0 s3.1) ds1 s3.2 with
        | some (out1, t1) => match lc2L g it1 vs1 g1 c1 e τ0 ds t1 with
          | some (rest, t') => some (out1 ++ rest, t')
          | none => none
        | none => none
      | _ => none
def lc2F {T : Type} (sh vs : List Nat) (it : IF T) (g : GF) (it1 : IF T) (vs1 : List Nat) (g1 : GF) (c1 e : EF T) : EF T := fun s => match it s with
  | none => none
  | some (.ex k fs, s1) => some (.ex k fs, s1)
  | some (.ok ds, s1) => match lc2L g it1 vs1 g1 c1 e (hideFrom vs 0 (shareAll sh s1.1)) ds s1.2 with
      | none => none
      | some (out, t) => if out.length ≤ LEN then some (.ok (.f (.lst out)), (shareAll sh s1.1, t)) else none
section
variable {Z : Wd} {C : Fx Z} {X : Cx} {ow ow1 : Nat → Option Addr} {τ : List Sl} {t : Z.T} {σ : L2.St} {H H1 H' : Hp}
/-- the slots of a block, later -/
structure Seen (Z : Wd) (O : Addr → Prop) (τ : List Sl) (σ : L2.St) (H : Hp) : Prop where
  len : τ.length = σ.length
  slot : ∀ (i : Nat) (s : Sl), τ[i]? = some s → SlotOk Z noEv O H (fun _ => none) σ i s
theorem Seen.ext {O O' : Addr → Prop} (S : Seen Z O τ σ H) (x : Ext O H O' H') : Seen Z O' τ σ H' := ⟨S.len, fun i s e => (S.slot i s e).ext x fun a z => by cases z⟩
theorem Rel.seen {O : Addr → Prop} {Hb : Hp} (R : (blkFx (Z := Z) O Hb).Rel (fun _ => none) τ t σ H) : Seen Z O τ σ H :=
  ⟨R.len, fun i s e => (R.slot i s e).ext ⟨fun a o e _ => e, fun a h => .inl (.inl h)⟩ fun a z => by cases z⟩
end
end FD

/-! F37: how many different ints, the different ints in order. -/
namespace FD
open PySem PySem.Spec PyProof.Rows L2
def insA (x : Int) : List Int → List Int
  | [] => [x]
  | y :: r => if x < y then x :: y :: r else if x = y then y :: r else y :: insA x r
/-- the different ones, ascending -/
def ascL : List Int → List Int
  | [] => []
  | x :: r => insA x (ascL r)
theorem mem_insA {x k : Int} : ∀ {l : List Int}, k ∈ insA x l ↔ k = x ∨ k ∈ l
  | [] => by simp [insA]
  | y :: r => by
    unfold insA
    split
    · simp
    · split
      · rename_i e
        subst e
        simp
      · simp only [List.mem_cons, mem_insA (l := r)]
        constructor
        · rintro (h | h | h)
          · exact .inr (.inl h)
          · exact .inl h
          · exact .inr (.inr h)
        · rintro (h | h | h)
          · exact .inr (.inl h)
          · exact .inl h
          · exact .inr (.inr h)
theorem insA_asc {x : Int} : ∀ {l : List Int}, l.Pairwise (· < ·) → (insA x l).Pairwise (· < ·)
  | [], _ => by simp [insA]
  | y :: r, h => by
    unfold insA
    have h2 := List.pairwise_cons.mp h
    split
    · rename_i q
      refine List.pairwise_cons.mpr ⟨fun z m => ?_, h⟩
      rcases List.mem_cons.mp m with rfl | m
      · exact q
      · have := h2.1 z m
        omega
    · split
      · exact h
      · rename_i q1 q2
        refine List.pairwise_cons.mpr ⟨fun z m => ?_, insA_asc h2.2⟩
        rcases mem_insA.mp m with rfl | m
        · omega
        · exact h2.1 z m
theorem ascL_asc : ∀ {l : List Int}, (ascL l).Pairwise (· < ·)
  | [] => .nil
  | x :: r => insA_asc ascL_asc
theorem mem_ascL {k : Int} : ∀ {l : List Int}, k ∈ ascL l ↔ k ∈ l
  | [] => Iff.rfl
  | x :: r => by rw [ascL, mem_insA, mem_ascL (l := r), List.mem_cons]
theorem asc_ext : ∀ {a b : List Int}, a.Pairwise (· < ·) → b.Pairwise (· < ·) → (∀ k, k ∈ a ↔ k ∈ b) → a = b
  | [], [], _, _, _ => rfl
  | [], y :: r, _, _, h => by have := (h y).mpr (List.mem_cons_self ..); cases this
  | x :: r, [], _, _, h => by have := (h x).mp (List.mem_cons_self ..); cases this
  | x :: a, y :: b, ha, hb, h => by
    have h1 := List.pairwise_cons.mp ha
    have h2 := List.pairwise_cons.mp hb
    have e : x = y := by
      rcases List.mem_cons.mp ((h x).mp (List.mem_cons_self ..)) with e | m
      · exact e
      · have c1 := h2.1 x m
        rcases List.mem_cons.mp ((h y).mpr (List.mem_cons_self ..)) with e | m2
        · exact e.symm
        · have c2 := h1.1 y m2
          omega
    subst e
    rw [asc_ext h1.2 h2.2 fun k => by
      constructor
      · intro m
        rcases List.mem_cons.mp ((h k).mp (List.mem_cons_of_mem _ m)) with e | m2
        · have := h1.1 k m
          omega
        · exact m2
      · intro m
        rcases List.mem_cons.mp ((h k).mpr (List.mem_cons_of_mem _ m)) with e | m2
        · have := h2.1 k m
          omega
        · exact m2]
theorem asc_iff {l : List Int} : l = ascL l ↔ l.Pairwise (· < ·) := ⟨fun e => e ▸ ascL_asc, fun h => asc_ext h ascL_asc fun _ => mem_ascL.symm⟩
section
variable {Z : Wd} {C : Fx Z} {X : Cx} {O : Addr → Prop} {H : Hp}
theorem denA_of_ints : ∀ {xs : List V} {ds : List D} {ns : List Int}, DenA Z O H xs ds → intsD ds = some ns → xs = ns.map V.int
  | _, _, _, .nil, e => by cases e; rfl
  | _, d :: ds, ns, .cons h r, e => by
    cases d with
    | int i =>
      simp only [intsD, Option.map_eq_some_iff] at e
      obtain ⟨ms, e1, rfl⟩ := e
      cases h with
      | int =>
        rw [denA_of_ints r e1]
        rfl
      | ref _ _ c => cases c
    | _ => cases e
theorem vals_ints' : ∀ {ns : List Int} {us : List Value}, Vals (ns.map V.int) us → PyProof.Rows.IntsAre us ns
  | [], _, .nil => .nil
  | n :: ns, _, .cons r t => by
    obtain ⟨k, rfl⟩ := r
    exact .cons n k (vals_ints' t)
end
end FD

/-! F38: F32 to F37 run by simp, and what holds behind them. -/
namespace FD
open PySem PySem.Spec PyProof.Rows L2
section
variable {T : Type}
/-! ### try -/
def tyS : Option (SOut × Sg T) → Option (SOut × Sg T)
  | some (.ex _ _, _) => none
  | r => r
def tyM (g : SF T) (c : Str) (fs : List (Str × D)) (s1 : Sg T) : Option Bool → Option (SOut × Sg T)
  | some true => tyS (g s1)
  | some false => some (.ex c fs, s1)
  | none => none
def tyO (m : Str → Option Bool) (g : SF T) : Option (SOut × Sg T) → Option (SOut × Sg T)
  | some (.ex c fs, s1) => tyM g c fs s1 (m c)
  | r => r
theorem q_try {m : Str → Option Bool} {f g : SF T} {s : Sg T} : tryF m f g s = tyO m g (f s) := by
  unfold tryF tyO
  rcases f s with _ | ⟨_ | _ | _ | _ | ⟨c, fs⟩, s1⟩ <;> rfl
theorem q_tyO_nx {m : Str → Option Bool} {g : SF T} {s : Sg T} : tyO m g (some (.nx, s)) = some (.nx, s) := (rfl)
theorem q_tyO_rt {m : Str → Option Bool} {g : SF T} {s : Sg T} {r : Res} : tyO m g (some (.rt r, s)) = some (.rt r, s) := (rfl)
theorem q_tyO_ex {m : Str → Option Bool} {g : SF T} {s : Sg T} {c : Str} {fs : List (Str × D)} : tyO m g (some (.ex c fs, s)) = tyM g c fs s (m c) := (rfl)
theorem q_tyM_t {g : SF T} {s : Sg T} {c : Str} {fs : List (Str × D)} : tyM g c fs s (some true) = tyS (g s) := (rfl)
theorem q_tyM_f {g : SF T} {s : Sg T} {c : Str} {fs : List (Str × D)} : tyM g c fs s (some false) = some (.ex c fs, s) := (rfl)
theorem q_tyS_nx {s : Sg T} : tyS (some (.nx, s)) = some (.nx, s) := (rfl)
theorem q_tyS_rt {s : Sg T} {r : Res} : tyS (some (.rt r, s)) = some (.rt r, s) := (rfl)
def tyQ (m : Str → Option Bool) (g : SF T) (Q : SOut → Sg T → Prop) : SOut → Sg T → Prop
  | .ex c fs, s => wS (tyM g c fs s (m c)) Q
  | o, s => Q o s
theorem w_tyO {m : Str → Option Bool} {g : SF T} {x : Option (SOut × Sg T)} {Q : SOut → Sg T → Prop} : wS (tyO m g x) Q = wS x (tyQ m g Q) := by
  rcases x with _ | ⟨o, s⟩
  · exact propext ⟨fun ⟨_, _, e, _⟩ => (nomatch e), fun ⟨_, _, e, _⟩ => (nomatch e)⟩
  · rw [w_S]
    cases o with
    | nx => exact w_S
    | rt r => exact w_S
    | bk => exact w_S
    | ct => exact w_S
    | ex c fs => rfl
theorem w_tyQ_nx {m : Str → Option Bool} {g : SF T} {Q : SOut → Sg T → Prop} {s : Sg T} : tyQ m g Q .nx s = Q .nx s := (rfl)
theorem w_tyQ_rt {m : Str → Option Bool} {g : SF T} {Q : SOut → Sg T → Prop} {s : Sg T} {r : Res} : tyQ m g Q (.rt r) s = Q (.rt r) s := (rfl)
theorem w_tyQ_ex {m : Str → Option Bool} {g : SF T} {Q : SOut → Sg T → Prop} {s : Sg T} {c : Str} {fs : List (Str × D)} : tyQ m g Q (.ex c fs) s = wS (tyM g c fs s (m c)) Q := (rfl)
def tySQ (Q : SOut → Sg T → Prop) : SOut → Sg T → Prop
  | .ex _ _, _ => False
  | o, s => Q o s
theorem w_tyS {x : Option (SOut × Sg T)} {Q : SOut → Sg T → Prop} : wS (tyS x) Q = wS x (tySQ Q) := by
  rcases x with _ | ⟨o, s⟩
  · exact propext ⟨fun ⟨_, _, e, _⟩ => (nomatch e), fun ⟨_, _, e, _⟩ => (nomatch e)⟩
  · rw [w_S]
    cases o with
    | nx => exact w_S
    | rt r => exact w_S
    | bk => exact w_S
    | ct => exact w_S
    | ex c fs => exact propext ⟨fun ⟨_, _, e, _⟩ => (nomatch e), fun e => e.elim⟩
theorem w_tySQ_nx {Q : SOut → Sg T → Prop} {s : Sg T} : tySQ Q .nx s = Q .nx s := (rfl)
theorem w_tySQ_rt {Q : SOut → Sg T → Prop} {s : Sg T} {r : Res} : tySQ Q (.rt r) s = Q (.rt r) s := (rfl)
/-! ### try .. as -/
theorem noX_nil : noX [] = true := (rfl)
theorem noX_no {τ : List Sl} : noX (.no :: τ) = noX τ := by simp [noX]
theorem noX_v {τ : List Sl} {d : D} : noX (.v d :: τ) = noX τ := by simp [noX]
theorem noX_o {τ : List Sl} {d : D} : noX (.o d :: τ) = noX τ := by simp [noX]
def taB (i : Nat) (g : Str → List (Str × D) → SF T) (c : Str) (fs : List (Str × D)) (s1 : Sg T) (b : Bool) : Option (SOut × Sg T) := if b = true then unX i (g c fs (s1.1.set i .x, s1.2)) else none
def taM (i : Nat) (g : Str → List (Str × D) → SF T) (c : Str) (fs : List (Str × D)) (s1 : Sg T) : Option Bool → Option (SOut × Sg T)
  | some true => taB i g c fs s1 (noX s1.1)
  | some false => some (.ex c fs, s1)
  | none => none
def taO (i : Nat) (m : Str → Option Bool) (g : Str → List (Str × D) → SF T) : Option (SOut × Sg T) → Option (SOut × Sg T)
  | some (.ex c fs, s1) => taM i g c fs s1 (m c)
  | r => r
theorem q_tryAs {i : Nat} {m : Str → Option Bool} {f : SF T} {g : Str → List (Str × D) → SF T} {s : Sg T} : tryAsF i m f g s = taO i m g (f s) := by
  unfold tryAsF taO
  rcases f s with _ | ⟨_ | _ | _ | _ | ⟨c, fs⟩, s1⟩ <;> rfl
theorem q_taO_nx {i : Nat} {m : Str → Option Bool} {g : Str → List (Str × D) → SF T} {s : Sg T} : taO i m g (some (.nx, s)) = some (.nx, s) := (rfl)
theorem q_taO_rt {i : Nat} {m : Str → Option Bool} {g : Str → List (Str × D) → SF T} {s : Sg T} {r : Res} : taO i m g (some (.rt r, s)) = some (.rt r, s) := (rfl)
theorem q_taO_ex {i : Nat} {m : Str → Option Bool} {g : Str → List (Str × D) → SF T} {s : Sg T} {c : Str} {fs : List (Str × D)} : taO i m g (some (.ex c fs, s)) = taM i g c fs s (m c) := (rfl)
theorem q_taM_t {i : Nat} {g : Str → List (Str × D) → SF T} {s : Sg T} {c : Str} {fs : List (Str × D)} : taM i g c fs s (some true) = taB i g c fs s (noX s.1) := (rfl)
theorem q_taM_f {i : Nat} {g : Str → List (Str × D) → SF T} {s : Sg T} {c : Str} {fs : List (Str × D)} : taM i g c fs s (some false) = some (.ex c fs, s) := (rfl)
theorem q_taB {i : Nat} {g : Str → List (Str × D) → SF T} {s : Sg T} {c : Str} {fs : List (Str × D)} : taB i g c fs s true = unX i (g c fs (s.1.set i .x, s.2)) := (rfl)
def unB (o : SOut) (τ : List Sl) (t : T) (b : Bool) : Option (SOut × Sg T) := if b = true then some (o, (τ, t)) else none
theorem q_unX_nx {i : Nat} {s : Sg T} : unX i (some (.nx, s)) = unB .nx (s.1.set i .no) s.2 (noX (s.1.set i .no)) := (rfl)
theorem q_unX_d {i : Nat} {s : Sg T} {d : D} : unX i (some (.rt (.d d), s)) = unB (.rt (.d d)) (s.1.set i .no) s.2 (noX (s.1.set i .no)) := (rfl)
theorem q_unX_f {i : Nat} {s : Sg T} {d : D} : unX i (some (.rt (.f d), s)) = unB (.rt (.f d)) (s.1.set i .no) s.2 (noX (s.1.set i .no)) := (rfl)
theorem q_unB {o : SOut} {τ : List Sl} {t : T} : unB o τ t true = some (o, (τ, t)) := (rfl)
def taQ (i : Nat) (m : Str → Option Bool) (g : Str → List (Str × D) → SF T) (Q : SOut → Sg T → Prop) : SOut → Sg T → Prop
  | .ex c fs, s => wS (taM i g c fs s (m c)) Q
  | o, s => Q o s
theorem w_taO {i : Nat} {m : Str → Option Bool} {g : Str → List (Str × D) → SF T} {x : Option (SOut × Sg T)} {Q : SOut → Sg T → Prop} : wS (taO i m g x) Q = wS x (taQ i m g Q) := by
  rcases x with _ | ⟨o, s⟩
  · exact propext ⟨fun ⟨_, _, e, _⟩ => (nomatch e), fun ⟨_, _, e, _⟩ => (nomatch e)⟩
  · rw [w_S]
    cases o with
    | nx => exact w_S
    | rt r => exact w_S
    | bk => exact w_S
    | ct => exact w_S
    | ex c fs => rfl
theorem w_taQ_nx {i : Nat} {m : Str → Option Bool} {g : Str → List (Str × D) → SF T} {Q : SOut → Sg T → Prop} {s : Sg T} : taQ i m g Q .nx s = Q .nx s := (rfl)
theorem w_taQ_rt {i : Nat} {m : Str → Option Bool} {g : Str → List (Str × D) → SF T} {Q : SOut → Sg T → Prop} {s : Sg T} {r : Res} : taQ i m g Q (.rt r) s = Q (.rt r) s := (rfl)
theorem w_taQ_ex {i : Nat} {m : Str → Option Bool} {g : Str → List (Str × D) → SF T} {Q : SOut → Sg T → Prop} {s : Sg T} {c : Str} {fs : List (Str × D)} : taQ i m g Q (.ex c fs) s = wS (taM i g c fs s (m c)) Q := (rfl)
def unQ (i : Nat) (Q : SOut → Sg T → Prop) : SOut → Sg T → Prop
  | .nx, s => wS (unB .nx (s.1.set i .no) s.2 (noX (s.1.set i .no))) Q
  | .rt (.d d), s => wS (unB (.rt (.d d)) (s.1.set i .no) s.2 (noX (s.1.set i .no))) Q
  | .rt (.f d), s => wS (unB (.rt (.f d)) (s.1.set i .no) s.2 (noX (s.1.set i .no))) Q
  | _, _ => False
theorem w_unX {i : Nat} {x : Option (SOut × Sg T)} {Q : SOut → Sg T → Prop} : wS (unX i x) Q = wS x (unQ i Q) := by
  rcases x with _ | ⟨o, s⟩
  · exact propext ⟨fun ⟨_, _, e, _⟩ => (nomatch e), fun ⟨_, _, e, _⟩ => (nomatch e)⟩
  · rw [w_S]
    rcases o with _ | (_ | _ | _) | _ | _ | _
    · rfl
    · rfl
    · rfl
    · exact propext ⟨fun ⟨_, _, e, _⟩ => (nomatch e), fun e => e.elim⟩
    · exact propext ⟨fun ⟨_, _, e, _⟩ => (nomatch e), fun e => e.elim⟩
    · exact propext ⟨fun ⟨_, _, e, _⟩ => (nomatch e), fun e => e.elim⟩
    · exact propext ⟨fun ⟨_, _, e, _⟩ => (nomatch e), fun e => e.elim⟩
theorem w_unQ_nx {i : Nat} {Q : SOut → Sg T → Prop} {s : Sg T} : unQ i Q .nx s = wS (unB .nx (s.1.set i .no) s.2 (noX (s.1.set i .no))) Q := (rfl)
theorem w_unQ_d {i : Nat} {Q : SOut → Sg T → Prop} {s : Sg T} {d : D} : unQ i Q (.rt (.d d)) s = wS (unB (.rt (.d d)) (s.1.set i .no) s.2 (noX (s.1.set i .no))) Q := (rfl)
theorem w_unQ_f {i : Nat} {Q : SOut → Sg T → Prop} {s : Sg T} {d : D} : unQ i Q (.rt (.f d)) s = wS (unB (.rt (.f d)) (s.1.set i .no) s.2 (noX (s.1.set i .no))) Q := (rfl)
/-! ### in the suite -/
def exO (s : Sg T) : Option D → Option (Out × Sg T)
  | some d => some (.ok (.d d), s)
  | none => none
def exC (f : Str) (fs : List (Str × D)) (s : Sg T) (b : Bool) : Option (Out × Sg T) := if b = true then exO s (fs.lookup f) else none
def exS (k f c : Str) (fs : List (Str × D)) (s : Sg T) : Option Sl → Option (Out × Sg T)
  | some .x => exC f fs s (decide (c = k))
  | _ => none
theorem q_exf {i : Nat} {k f c : Str} {fs : List (Str × D)} {s : Sg T} : exfF i k f c fs s = exS k f c fs s s.1[i]? := by
  unfold exfF exS exC exO
  rcases s.1[i]? with _ | _ | _ | _ | _ <;> try rfl
  by_cases q : c = k
  · rw [if_pos q, if_pos (decide_eq_true q)]
    all_goals rfl
  · rw [if_neg q, if_neg (by simpa using q)]
theorem q_exS {f c : Str} {fs : List (Str × D)} {s : Sg T} : exS c f c fs s (some .x) = exO s (fs.lookup f) := by simp [exS, exC]
theorem q_exO {s : Sg T} {d : D} : exO s (some d) = some (.ok (.d d), s) := (rfl)
def eiS (b : Option Bool) (s : Sg T) : Option Sl → Option (Out × Sg T)
  | some .x => match b with
    | some b => some (.ok (.d (.bl b)), s)
    | none => none
  | _ => none
theorem q_exi {i : Nat} {b : Option Bool} {s : Sg T} : exiF i b s = eiS b s s.1[i]? := by
  unfold exiF eiS
  rcases s.1[i]? with _ | _ | _ | _ | _ <;> rcases b with _ | b <;> rfl
theorem q_eiS {b : Bool} {s : Sg T} : eiS (some b) s (some .x) = some (.ok (.d (.bl b)), s) := (rfl)
theorem q_lk1 {f : Str} {d : D} : List.lookup f [(f, d)] = some d := by
  rw [List.lookup_cons]
  simp
/-! ### comprehensions over two walks -/
def l2R (τ : List Sl) : Option (List D × T) → Option (Out × Sg T)
  | none => none
  | some (out, t) => if out.length ≤ LEN then some (.ok (.f (.lst out)), (τ, t)) else none
def l2O (sh vs : List Nat) (g : GF) (it1 : IF T) (vs1 : List Nat) (g1 : GF) (c1 e : EF T) : Option (OutI × Sg T) → Option (Out × Sg T)
  | none => none
  | some (.ex k fs, s1) => some (.ex k fs, s1)
  | some (.ok ds, s1) => l2R (shareAll sh s1.1) (lc2L g it1 vs1 g1 c1 e (hideFrom vs 0 (shareAll sh s1.1)) ds s1.2)
theorem q_lc2 {sh vs vs1 : List Nat} {it it1 : IF T} {g g1 : GF} {c1 e : EF T} {s : Sg T} : lc2F sh vs it g it1 vs1 g1 c1 e s = l2O sh vs g it1 vs1 g1 c1 e (it s) := by
  unfold lc2F l2O l2R
  rcases it s with _ | ⟨_ | _, _⟩ <;> rfl
def l2Q (sh vs : List Nat) (g : GF) (it1 : IF T) (vs1 : List Nat) (g1 : GF) (c1 e : EF T) (Q : Out → Sg T → Prop) : OutI → Sg T → Prop
  | .ok ds, s => wL (lc2L g it1 vs1 g1 c1 e (hideFrom vs 0 (shareAll sh s.1)) ds s.2) fun out t => out.length ≤ 100000 ∧ Q (.ok (.f (.lst out))) (shareAll sh s.1, t)
  | .ex k fs, s => Q (.ex k fs) s
theorem w_l2O {sh vs vs1 : List Nat} {it1 : IF T} {g g1 : GF} {c1 e : EF T} {x : Option (OutI × Sg T)} {Q : Out → Sg T → Prop} : wE (l2O sh vs g it1 vs1 g1 c1 e x) Q = wI x (l2Q sh vs g it1 vs1 g1 c1 e Q) := by
  rcases x with _ | ⟨o, s⟩
  · exact propext ⟨fun ⟨_, _, e, _⟩ => (nomatch e), fun ⟨_, _, e, _⟩ => (nomatch e)⟩
  · rw [w_I]
    cases o with
    | ok ds =>
      show wE (l2R (shareAll sh s.1) (lc2L g it1 vs1 g1 c1 e (hideFrom vs 0 (shareAll sh s.1)) ds s.2)) Q = wL (lc2L g it1 vs1 g1 c1 e (hideFrom vs 0 (shareAll sh s.1)) ds s.2) fun out t => out.length ≤ 100000 ∧ Q (.ok (.f (.lst out))) (shareAll sh s.1, t)
      rcases lc2L g it1 vs1 g1 c1 e (hideFrom vs 0 (shareAll sh s.1)) ds s.2 with _ | ⟨out, t⟩
      · exact propext ⟨fun ⟨_, _, e, _⟩ => (nomatch e), fun ⟨_, _, e, _⟩ => (nomatch e)⟩
      · rw [w_L]
        show wE (if out.length ≤ 100000 then some (Out.ok (Res.f (D.lst out)), (shareAll sh s.1, t)) else none) Q = _
        rw [w_dsp, w_E]
    | ex c fs => exact w_E
theorem w_l2Q {sh vs vs1 : List Nat} {it1 : IF T} {g g1 : GF} {c1 e : EF T} {Q : Out → Sg T → Prop} {ds : List D} {s : Sg T} : l2Q sh vs g it1 vs1 g1 c1 e Q (.ok ds) s = wL (lc2L g it1 vs1 g1 c1 e (hideFrom vs 0 (shareAll sh s.1)) ds s.2) fun out t => out.length ≤ 100000 ∧ Q (.ok (.f (.lst out))) (shareAll sh s.1, t) := (rfl)
def itQ (Q : List D → List Sl → T → Prop) : OutI → Sg T → Prop
  | .ok ds, s => Q ds s.1 s.2
  | .ex _ _, _ => False
theorem w_itQ {Q : List D → List Sl → T → Prop} {ds : List D} {s : Sg T} : itQ Q (.ok ds) s = Q ds s.1 s.2 := (rfl)
/-! ### sets -/
def lrD : D → Option (D × Bool)
  | .int n => if n ≤ LEN ∧ small n = true then some (.lst (rngL 0 n), true) else none
  | _ => none
def trD : D → Option (D × Bool)
  | .int n => if n ≤ LEN ∧ small n = true then some (.tup (rngL 0 n), false) else none
  | _ => none
theorem q_lrng1 {f : EF T} {s : Sg T} : lrng1F f s = unF lrD f s := by
  unfold lrng1F unF
  congr 1
  funext r
  congr 1
  funext τ
  rcases peek τ (hold r) with _ | d
  · rfl
  · cases d <;> rfl
theorem q_trng1 {f : EF T} {s : Sg T} : trng1F f s = unF trD f s := by
  unfold trng1F unF
  congr 1
  funext r
  congr 1
  funext τ
  rcases peek τ (hold r) with _ | d
  · rfl
  · cases d <;> rfl
theorem v_lr {n : Int} (h1 : n ≤ 100000) (h2 : -100000 ≤ n) : lrD (.int n) = some (.lst (rngL 0 n), true) := if_pos ⟨h1, small_of (by omega)⟩
end
def fzA := And.intro (@q_lrng1) <| And.intro (@q_trng1) <| And.intro (@q_fld) <| And.intro (@q_setFld) <| And.intro (@q_sfK) <| And.intro (@q_sfG) <| And.intro (@q_sfO) <| And.intro (@q_raise) <| And.intro (@q_raK) <| And.intro (@q_raO) <| And.intro (@q_raise0) <| And.intro (@q_try) <| And.intro (@q_tyO_nx) <| And.intro (@q_tyO_rt) <| And.intro (@q_tyO_ex) <| And.intro (@q_tyM_t) <| And.intro (@q_tyM_f) <| And.intro (@q_tyS_nx) <| And.intro (@q_tyS_rt) <| And.intro (@noX_nil) <| And.intro (@noX_no) <| And.intro (@noX_v) <| And.intro (@noX_o) <| And.intro (@q_tryAs) <| And.intro (@q_taO_nx) <| And.intro (@q_taO_rt) <| And.intro (@q_taO_ex) <| And.intro (@q_taM_t) <| And.intro (@q_taM_f) <| And.intro (@q_taB) <| And.intro (@q_unX_nx) <| And.intro (@q_unX_d) <| And.intro (@q_unX_f) <| And.intro (@q_unB) <| And.intro (@q_exf) <| And.intro (@q_exS) <| And.intro (@q_exO) <| And.intro (@q_exi) <| And.intro (@q_eiS) <| And.intro (@q_lk1) (@q_lc2)
def fzW := And.intro (@w_tyO) <| And.intro (@w_tyQ_nx) <| And.intro (@w_tyQ_rt) <| And.intro (@w_tyQ_ex) <| And.intro (@w_tyS) <| And.intro (@w_tySQ_nx) <| And.intro (@w_tySQ_rt) <| And.intro (@w_taO) <| And.intro (@w_taQ_nx) <| And.intro (@w_taQ_rt) <| And.intro (@w_taQ_ex) <| And.intro (@w_unX) <| And.intro (@w_unQ_nx) <| And.intro (@w_unQ_d) <| And.intro (@w_unQ_f) <| And.intro (@w_l2O) <| And.intro (@w_l2Q) (@w_itQ)
end FD

/-! F39: isinstance of a handled exception. -/
namespace FD
open PySem PySem.Spec PyProof.Rows L2
section
variable {Z : Wd} {C : Fx Z} {X : Cx} {a : Addr} {oe : Obj} {cls : Value} {d : Option Addr} {pn : List (Addr × Obj)}
end
end FD

set_option maxHeartbeats 2000000
/-! F40: a lambda of one parameter, made and called; sorted(range(..), key=lambda ..). -/
namespace FD
open PySem PySem.Spec PyProof.Rows L2 LamX
/-! ### the lambda is made -/
section
variable {X : Cx} {pins : List (Addr × Obj)} {σ : L2.St} {H : Hp} {s : Shared}
end
/-! ### the lambda is called -/
section
variable {X : Cx} {pins : List (Addr × Obj)} {σ : L2.St} {H : Hp} {s : Shared}
end
end FD

set_option maxHeartbeats 2000000
/-! F41: sorted(range(..), key=lambda ..), by the machine. -/
namespace FD
open PySem PySem.Spec PyProof.Rows L2 LamX
/-! ### a stable order by keys -/
def insK (y : Int × Int) : List (Int × Int) → List (Int × Int)
  | [] => [y]
  | x :: r => if y.1 < x.1 then y :: x :: r else x :: insK y r
def sortK (l : List (Int × Int)) : List (Int × Int) := l.foldl (fun acc y => insK y acc) []
/-! ### the end of a sort by keys -/
section
variable {prog : Program} {w : World} {A : Around} {E : Value → Shared → Prop} {s : Shared}
end
/-! ### the heap while it sorts -/
section
variable {X : Cx} {pins : List (Addr × Obj)} {σ : L2.St} {H : Hp} {s : Shared}
end
end FD

set_option maxHeartbeats 2000000
/-! F42: sorted(range(..), key=lambda ..) by data; worlds that keep a table of code objects. -/
namespace FD
open PySem PySem.Spec PyProof.Rows L2 LamX
section
variable {Z : Wd} {C : Fx Z} {X : Cx} {ow : Nat → Option Addr} {τ : List Sl} {t : Z.T} {σ : L2.St} {H H1 : Hp} {P : Addr} {q : Str}
end
end FD

set_option maxHeartbeats 2000000
/-! F43: a world and a table of code objects beside it. -/
namespace FD
open PySem PySem.Spec PyProof.Rows L2 LamX
section
variable {Z Z' : Wd} {O : Addr → Prop} {H : Hp}
end
end FD

/-! F19: the end of a law. -/
namespace FD
open PySem PySem.Spec PyProof.Rows L2
/-- as FnOk, where it is called with no guard around -/
def FnG (P : Program) (w : World) (K : PySem.W.Frag) (mg : Str → Option Value) (base : Heap) (CX : CXT) (k : Nat) (f : Addr) (fd : FuncData) (ps : List Str) (sp : Sp) : Prop :=
  ∀ (B : Around) (outer : List Env) (s : Shared) (H : Hp) (args : Args) (us : List Value) (vs : List V) (Q : VK) (E : XK), B.guards = some [] → Room k B → Env0 P w K mg base B outer s H → BindsTo s fd args (ps.zip us) → Vals vs us → sp vs H Q E →
    codeAny (model P w) B (.call (.ref f) args) (CR CX outer P w H s Q E) s
theorem fun_okG {CX : CXT} {P : Program} {w : World} {K : PySem.W.Frag} {mg : Str → Option Value} {base : Heap} {x qual : Str} {st : Stmt} {f : Addr} {fd : FuncData} {N ps : List Str} {k : Nat} {sp : Sp} (F : Fun K x qual st f fd) (S : FnScope N ps (defScope st))
    (len : ∀ vs H Q E, sp vs H Q E → vs.length = ps.length)
    (body : ∀ (cdv : Value) (B : Around) (outer : List Env) (s : Shared) (H : Hp) (vs : List V) (Q : VK) (E : XK), B.guards = some [] → Room k (B.deeper (envOfC qual (defScope st) s.heap.objs.size f cdv)) → sp vs H Q E →
      ∃ t, PSs (cxOf CX P w K mg base N qual (defScope st) f cdv B outer s H E) (defBody st) t ∧ t { nx := fun _ H' => Q .non H', rt := Q } (start N vs) H) : FnG P w K mg base CX (k + 1) f fd ps sp := by
  intro B outer s H args us vs Q E gd hr env hb rel hsp
  obtain ⟨oc, od, kV, doc, pm, an, cdv, ct, osl, rfl, look, isCode⟩ := F.ex
  have many := len _ _ _ _ hsp
  have inK : K.In s.heap := env.mod.kin.keeps fun b o e => (env.bs b o e).1
  have noLim : s.heap.NoLimit := env.mod.nolimit.keeps fun b o e => (env.bs b o e).1
  have kinds : ∀ y ∈ ps.zip us, (defScope st).names.lookup y.1 = some .local ∨ ((defScope st).names.lookup y.1 = some .cell ∧ ((cellsFrom (s.heap.objs.size + 1) (defScope st).names []).lookup y.1).isSome = true) := by
    rintro ⟨n, v⟩ hy
    rcases S.par n (List.of_mem_zip hy).1 with q | q
    · exact .inl q
    · exact .inr ⟨q, PySem.W.cellsFrom_some _ _ _ (.inl q)⟩
  refine codeAny_call_function hr.depth (inK _ _ look) rfl S.co S.gen rfl (PySem.W.codeRec_of inK isCode) (hb _ _ _ _ (wpAny_newFunctionEnv_cells S.kind kinds ?_))
  intro env' he s1 ic
  subst he
  obtain ⟨t, derived, asked⟩ := body cdv B outer s H vs Q E gd (hr.deeper _) hsp
  have I : Inv (cxOf CX P w K mg base N qual (defScope st) f cdv B outer s H E) [] (start N vs) H s1 := inv_start S hr.hd env many rel ic
  refine ⟨noLim.keeps ic.toInCall.keep, codeAny_func (wpAny_mono (derived.run [] s1 (start N vs) H _ I asked) (fun fl s' end_ => ?_) fun e s' z => z)⟩
  cases fl with
  | ret u =>
    obtain ⟨v, σ', H', J, rv, q⟩ := end_
    exact ⟨v, H', J.os, J.bare, J.base, J.hok, rv, q⟩
  | next =>
    obtain ⟨σ', H', J, q⟩ := end_
    exact ⟨V.non, H', J.os, J.bare, J.base, J.hok, (rfl : RelV V.non Value.none), q⟩
  | brk => exact (end_.choose_spec.choose_spec.2 : False).elim
  | cont => exact (end_.choose_spec.choose_spec.2 : False).elim
/-- the law's own call, behind the top -/
theorem callG {P : Program} {w : World} {K : PySem.W.Frag} {mg mb : Str → Option Value} {CX : CXT} {k : Nat} {fa sc : Addr} {fd : FuncData} {x : Str} {sp : Sp} {s₁ : Shared} {us : List Value} {ns : List Int}
    (inK : K.In s₁.heap) (nsG : s₁.heap.Ns mainGlobals mg) (nsB : s₁.heap.Ns builtinsNs mb) (isB : ∀ x : Str, x ≠ "__name__" → mb x = bootBuiltins x) (noLim : s₁.heap.NoLimit) (noGen : s₁.gens = #[])
    (hsc : s₁.heap.get? sc = some { cls := .type "list", data := .seq us.toArray }) (hints : IntsAre us ns) (short : ns.length ≤ sizeLine) (room : Room k callerA)
    (F : ∀ base : Heap, K.In base → base.Ns mainGlobals mg → FnG P w K mg base CX k fa fd [x] sp) (hbind : ∀ (s : Shared) (u : Value), BindsTo s fd ⟨[u], []⟩ [(x, u)])
    (hsp : ∀ H : Hp, SqL K H sc (ns.map V.int) → sp [.ref sc] H (fun v _ => v = .bl true) fun _ _ _ => False) (noE : ∀ H e s', CX [] H s₁ (fun _ _ _ => False) e s' → False) :
    codeAny (model P w) callerA (.call (.ref fa) ⟨[.ref sc], []⟩) (fun r s' => r = .ok (.ret (.bool true)) ∧ OldK s₁.heap s'.heap ∧ s'.os = s₁.os ∧ AllBare s'.gens) s₁ := by
  have rel := vals_ints hints
  have same := hints.length
  -- H tracks at most the script, locked
  have main : ∀ H : Hp, (∀ b, H b = none ∨ (b = sc ∧ K.lookup sc = none ∧ ∃ o xs, H b = some (.frz o (.lst xs)))) → SqL K H sc (ns.map V.int) → HOk P w H s₁.heap →
      codeAny (model P w) callerA (.call (.ref fa) ⟨[.ref sc], []⟩) (fun r s' => r = .ok (.ret (.bool true)) ∧ OldK s₁.heap s'.heap ∧ s'.os = s₁.os ∧ AllBare s'.gens) s₁ := by
    intro H only held ok
    have low : ∀ {b : Addr} {o : Obj}, s₁.heap.get? b = some o → H b = none → (hidT s₁.heap H).get? b = some o := fun e n => hidT_get e n
    have notDict : ∀ {b : Addr} {o : Obj} {es : Array DictEntry} {ep : Nat}, s₁.heap.get? b = some o → o.data = .dict es ep → H b = none := by
      intro b o es ep e d
      rcases only b with z | ⟨z, _, _⟩
      · exact z
      · subst z
        rw [hsc] at e
        cases e
        cases (show Data.seq us.toArray _ = Data.dict es ep from d)
    have nsLow : ∀ {b : Addr} {m : Str → Option Value}, s₁.heap.Ns b m → (hidT s₁.heap H).Ns b m := by
      rintro b m ⟨o, es, ep, e, d, r⟩
      exact ⟨o, es, ep, low e (notDict e d), d, r⟩
    have inLow : K.In (hidT s₁.heap H) := by
      intro b o e
      refine low (inK b o e) ?_
      rcases only b with z | ⟨z, n, _⟩
      · exact z
      · subst z
        rw [n] at e
        cases e
    have md : Mod K mg (hidT s₁.heap H) := ⟨inLow, nsLow nsG, ⟨mb, nsLow nsB, isB⟩, let ⟨mc, q1, q2⟩ := noLim; ⟨mc, nsLow q1, q2⟩⟩
    have env : Env0 P w K mg (hidT s₁.heap H) callerA [] s₁ H := ⟨rfl, md, fun b o e => of_hidT e, Nat.le_of_eq (hidT_size _ _), trivial, fun b hb => absurd (show b ∈ ([] : List Addr) from hb) (by simp), ok, .of_eq noGen⟩
    refine codeAny_mono (F _ inLow (nsLow nsG) callerA [] s₁ H ⟨[.ref sc], []⟩ [.ref sc] [.ref sc] _ _ rfl room env (hbind s₁ (.ref sc)) (.cons rfl .nil) (hsp H held)) ?_
    intro r s' h
    cases r with
    | error e => exact (noE H e s' h).elim
    | ok fl =>
      cases fl with
      | next => exact (h : False).elim
      | brk => exact (h : False).elim
      | cont => exact (h : False).elim
      | ret u =>
        obtain ⟨v, H', os, bare, un, ok', ru, q⟩ := h
        obtain rfl : v = .bl true := q
        obtain rfl : u = Value.bool true := ru
        refine ⟨rfl, OldK.of_keep fun b o e => ?_, os, bare⟩
        rcases only b with z | ⟨_, _, ob, xs, z⟩
        · exact un.keep b o e z (fun y => absurd (show b ∈ ([] : List Addr) from y) (by simp)) (by simp)
        · obtain ⟨e1, _⟩ := ok b _ z
          obtain ⟨e2, _⟩ := ok' b _ (un.frzs b ob _ z)
          rw [e] at e1
          cases e1
          exact e2
  cases hk : K.lookup sc with
  | some o =>
    have e := inK sc o hk
    rw [hsc] at e
    cases e
    exact main (fun _ => none) (fun _ => .inl rfl) (.inr ⟨_, us.toArray, _, hk, rfl, rfl, rfl, by rw [List.size_toArray, same]; exact short, by simpa using rel⟩) (fun b u z => by cases (show (none : Option HO) = some u from z))
  | none =>
    refine main (fun b => if b = sc then some (.frz { cls := .type "list", data := .seq us.toArray } (.lst (ns.map V.int))) else none) (fun b => ?_) (.inl (.inr ⟨{ cls := .type "list", data := .seq us.toArray }, if_pos rfl⟩)) (fun b u z => ?_)
    · by_cases hb : b = sc
      · exact .inr ⟨hb, hk, _, _, if_pos hb⟩
      · exact .inl (if_neg hb)
    · by_cases hb : b = sc
      · cases (if_pos hb).symm.trans z
        subst hb
        exact ⟨hsc, by rw [List.length_map]; exact short, us, _, rel, hsc⟩
      · cases (if_neg hb).symm.trans z
/-- the goal that k_head leaves -/
theorem walkG {l : PySem.W.OpenLaw} {n k : Nat} {q : Program} {loose : List Str} {XP : (Str → Option Value) → Heap → Prop} {YP : World → Heap → Prop} {d : DefRec} {K : Params → PySem.W.Frag} {CX : World → CXT} {sp : World → Sp} {x : Str}
    (most : l.most = some n) (fits : n ≤ sizeLine) (plain : d.params.defaults = []) (room : Room k callerA) (inK : ∀ (w : World) (h : Heap), YP w h → (K w.params).In h)
    (F : ∀ (w : World) (mg : Str → Option Value) (fa : Addr) (h : Heap), (K w.params).In h → h.Ns mainGlobals mg → mg d.name = some (.ref fa) → ∃ fd : FuncData, (∀ (s : Shared) (u : Value), BindsTo s fd ⟨[u], []⟩ [(x, u)]) ∧
      ∀ base : Heap, (K w.params).In base → base.Ns mainGlobals mg → FnG l.prog w (K w.params) mg base (CX w) k fa fd [x] (sp w))
    (hsp : ∀ (w : World) (H : Hp) (a : Addr) (ns : List Int), ns.length ≤ n → SqL (K w.params) H a (ns.map V.int) → sp w [.ref a] H (fun v _ => v = .bl true) fun _ _ _ => False)
    (noE : ∀ (w : World) (H : Hp) (s : Shared) (e : Value) (s' : Shared), CX w [] H s (fun _ _ _ => False) e s' → False) : PySem.W.WalkO q loose XP YP l.row.toRowW d [] (fun f vs => PySem.call f vs) := by
  refine Att.attach_call most plain ?_
  intro w s₀ s₁ mg mb fa o pm cd doc a vs ns G Y ho hd hcd hmg hobj hints len gens
  have KX := inK w _ Y
  obtain ⟨fd, hb, hF⟩ := F w mg fa _ KX G.T.g hmg
  exact callG KX G.T.g G.T.b G.T.builtins G.T.nolimit gens hobj hints (Nat.le_trans len fits) room hF hb (fun H hS => hsp w H a ns len hS) fun H e s' => noE w H s₁ e s'
end FD

namespace FD
open PySem PySem.Spec PyProof.Rows L2
theorem noCX {P : Program} {w : World} (H : Hp) (s : Shared) (e : Value) (s' : Shared) (h : L2.CX P w [] H s (fun _ _ _ => False) e s') : False := by
  obtain ⟨_, _, _, _, _, _, _, _, _, _, _, _, z⟩ := h
  exact z
def sp_law (K : PySem.W.Frag) : Sp := fun vs H Q _ => ∃ (a : Addr) (ns : List Int), vs = [.ref a] ∧ SqL K H a (ns.map V.int) ∧ ns.length ≤ 63 ∧ ∀ H', Q (.bl true) H'
def sp_q_deck (K : PySem.W.Frag) : Sp := fun vs H Q _ => ∃ (a : Addr) (ns : List Int), vs = [.ref a] ∧ SqL K H a (ns.map V.int) ∧ ns.length ≤ 63 ∧
  ∀ (H' : Hp) (D : Dk) (big cells : List Int), Same H H' → H D.a = none → H D.l1 = none → H D.l2 = none → D.At H' 0 big cells → Q (.ref D.a) H'
theorem same_new {H : Hp} {p : Addr} {o : HO} (h : H p = none) : Same H (upd H p o) := fun b x e => upd_keep h e
theorem same_set {H H' : Hp} {p : Addr} {o : HO} (k : Same H H') (h : H p = none) : Same H (upd H' p o) := fun b x e => by
  rw [upd_ne (ne_of_none e h)]
  exact k b x e
def absI (n : Int) : Int := if n < 0 then -n else n
def bigs (ns : List Int) : List Int := ns.filter fun n => decide ((1000000000000000000 : Int) ≤ n)
theorem bigs_take {ns : List Int} {i : Nat} {n : Int} (h : ns[i]? = some n) : bigs (ns.take (i + 1)) = bigs (ns.take i) ++ (if (1000000000000000000 : Int) ≤ n then [n] else []) := by
  unfold bigs
  rw [List.take_add_one, h, List.filter_append]
  by_cases c : (1000000000000000000 : Int) ≤ n
  · simp [c]
  · simp [c]
theorem small1000 {n : Nat} (h : n ≤ 1000) : n < sizeLine := by rw [sizeLine_eq]; omega
theorem le_line {n : Nat} (h : n ≤ 1000) : n ≤ sizeLine := Nat.le_of_lt (small1000 h)
/-- the first state behind the deck -/
def lawS (n : Nat) : List Sl := .no :: .v (.hnd 0) :: List.replicate (n - 2) .no
/-- behind the deck: the rest of the law, by data -/
theorem law_rest {D : Dk} {ca : Str → Addr} {fv : Nat → V} {f : SF DS} {n : Nat} {H : Hp} {σ : L2.St} {big cells : List Int} {Q : VK} {C : Fx (Zdk D ca fv)}
    (hC : C = ⟨(Zdk D ca fv).hid, H, dead, noEv⟩) (hn : 2 ≤ n) (hl : σ.length = n) (h1 : σ[1]? = some (some (.ref D.a))) (at_ : D.At H 0 big cells) (q : ∀ H', Q (.bl true) H')
    (pure_ : ∀ t : DS, t.c = 0 → ∃ s', f (lawS n, t) = some (.rt (.d (.bl true)), s')) : tS C f { nx := fun _ H' => Q .non H', rt := Q } σ H := by
  subst hC
  obtain ⟨s', e⟩ := pure_ ⟨0, big, cells⟩ rfl
  refine ⟨fun _ => none, lawS n, ⟨0, big, cells⟩, ?_, rfl, _, s', e, fun ow' σ' v H' R r x => ?_⟩
  · refine ⟨at_, fun a h => h, fun a h => (Zdk D ca fv).trk ⟨0, big, cells⟩ H a at_ h, fun _ _ e _ => e, ?_, fun i s h => ?_, fun _ _ _ z => (nomatch z), fun _ _ z => (nomatch z)⟩
    · unfold lawS
      simp only [List.length_cons, List.length_replicate]
      omega
    · match i, h with
      | 0, h => cases h; trivial
      | 1, h => cases h; exact ⟨_, h1, .hnd (Z := Zdk D ca fv) 0⟩
      | i + 2, h =>
        unfold lawS at h
        simp only [List.getElem?_cons_succ] at h
        rw [List.getElem?_replicate] at h
        split at h
        · cases h; trivial
        · cases h
  · rw [(Shows.den r.2).bl]
    exact q H'
theorem ex_S {X : Cx} {f : SF DS} {st : List Stmt} {ca0 : Str → Addr} {fv : Nat → V} (h : ∀ (Dx : Dk) (C : Fx (Zdk Dx ca0 fv)), C.W = dead → PSs X st (tS C f)) :
    PSs X st (fun E σ H => ∃ (Dx : Dk) (C : Fx (Zdk Dx ca0 fv)), C.W = dead ∧ tS C f E σ H) := ⟨fun pins s σ H E I ⟨Dx, C, w, q⟩ => (h Dx C w).run pins s σ H E I q⟩
end FD

set_option maxHeartbeats 2000000
/-! F44: the end of a law whose program makes lambdas in one def. -/
namespace FD
open PySem PySem.Spec PyProof.Rows L2 LamX
end FD

set_option maxHeartbeats 2000000
/-! F45: bodies of defs that make lambdas: the code object is known. -/
namespace FD
open PySem PySem.Spec PyProof.Rows L2 LamX
section
variable {P : Program} {w : World} {K : PySem.W.Frag} {mg : Str → Option Value} {base : Heap} {Z : Wd}
end
end FD

set_option maxHeartbeats 2000000
/-! F46: a star in a display. -/
namespace FD
open PySem PySem.Spec PyProof.Rows L2 LamX StX
def starD : D → Option (List D)
  | .lst ds => some ds
  | .tup ds => some ds
  | _ => none
def starA {T : Type} (f : EF T) (g : AF T) : AF T := fun s => match f s with
  | none => none
  | some (.ex c fs, s1) => some (.ex c fs, s1)
  | some (.ok r, s1) => match peek s1.1 (hold r) with
    | none => none
    | some d => match starD d with
      | none => none
      | some ds => match g s1 with
        | none => none
        | some (.ex c fs, s2) => some (.ex c fs, s2)
        | some (.ok rs, s2) => some (.ok (ds.map Res.d ++ rs), s2)
section
variable {Z : Wd} {C : Fx Z} {X : Cx} {ow ow' : Nat → Option Addr} {τ : List Sl} {t : Z.T} {σ : L2.St} {H H' : Hp} {f : EF Z.T} {g : AF Z.T}
theorem resOks_data (z : ow 0 = none) : ∀ {vs : List V} {ds : List D} {ws : List V} {rs : List Res}, DenA Z (C.Hid ow) H vs ds → ResOks C σ ow τ H ws rs → ResOks C σ ow τ H (vs ++ ws) (ds.map Res.d ++ rs)
  | _, _, _, _, .nil, k => k
  | _, _, _, _, .cons h r, k => .cons (r := .d _) ⟨z, h⟩ (resOks_data z r k)
theorem shows_items {O : Addr → Prop} {v : V} {d : D} {ds : List D} {K : PySem.W.Frag} (h : Shows Z O H v d) (e : starD d = some ds) : ∃ a xs, v = .ref a ∧ (SqT K H a xs ∨ SqL K H a xs) ∧ DenA Z O H xs ds := by
  unfold starD at e
  split at e
  · cases e
    obtain ⟨a, ys, rfl, h1, c1⟩ := h.lst
    exact ⟨a, ys, rfl, .inr (SqL.of h1), c1⟩
  · cases e
    obtain ⟨a, ys, rfl, h1, c1, _⟩ := h.tup
    exact ⟨a, ys, rfl, .inl (SqT.of h1), c1⟩
  · cases e
theorem tA_star {Q : List V → Hp → Prop} {K : PySem.W.Frag} (h : tA C (starA f g) σ H Q) : tStar K (tF C f) (tA C g) σ H Q := by
  obtain ⟨ow, τ, t, R, h0, o, s', e, h⟩ := h
  unfold starA at e
  cases q : f (τ, t) with
  | none => rw [q] at e; cases e
  | some z =>
    obtain ⟨o1, s1⟩ := z
    rw [q] at e
    cases o1 with
    | ex c fs =>
      cases e
      exact ⟨ow, τ, t, _, _, R, h0, q, h⟩
    | ok r =>
      refine ⟨ow, τ, t, _, _, R, h0, q, fun ow1 v H1 R1 r1 x1 => ?_⟩
      obtain ⟨ow2, R2, z2, r2, x2⟩ := r1.hold R1
      have x12 := x1.trans x2
      simp only at e
      split at e
      · cases e
      · rename_i d p1
        split at e
        · cases e
        · rename_i ds p2
          obtain ⟨a, xs, rfl, sq, dn⟩ := shows_items (K := K) (r2.peek R2 p1) p2
          refine ⟨a, xs, rfl, sq, ?_⟩
          split at e
          · cases e
          · rename_i c fs s2 q2
            cases e
            exact ⟨ow2, s1.1, s1.2, R2, z2, _, _, q2, fun ow3 d H3 R3 z3 x3 e3 => h ow3 d H3 R3 z3 (x12.trans x3) e3⟩
          · rename_i rs s2 q2
            cases e
            exact ⟨ow2, s1.1, s1.2, R2, z2, _, _, q2, fun ow3 vs H3 R3 z3 rs3 x3 => h ow3 _ H3 R3 z3 (resOks_data z3 (dn.ext x3) rs3) (x12.trans x3)⟩
theorem ev_astar {e : Expr} {es : List Expr} {p : Pos} (he : PE X e (tF C f)) (hr : PA X es (tA C g)) (hs : starEach (.Starred e p :: es) X.env = (true, eval e X.env) :: starEach es X.env := by rfl) : PA X (.Starred e p :: es) (tA C (starA f g)) :=
  ⟨fun pos pins s σ H Q I h => (pa_star he hr hs).run pos pins s σ H Q I (tA_star h)⟩
end
end FD

/-! F47: what the top leaves of one def. -/
namespace FD
open PySem PySem.Spec PyProof.Rows L2
structure Df (K : PySem.W.Frag) (mg : Str → Option Value) (x : Str) (st : Stmt) (ps : List Str) where
  a : Addr
  d : FuncData
  F : Fun K x x st a d
  b : Binds K d ps []
  g : mg x = some (.ref a)
end FD

/-! F48: running a star in a display. -/
namespace FD
open PySem PySem.Spec PyProof.Rows L2
section
variable {T : Type}
def stG (ds : List D) : Option (OutA × Sg T) → Option (OutA × Sg T)
  | none => none
  | some (.ex c fs, s2) => some (.ex c fs, s2)
  | some (.ok rs, s2) => some (.ok (ds.map Res.d ++ rs), s2)
def stQ (ds : List D) (Q : OutA → Sg T → Prop) : OutA → Sg T → Prop
  | .ok rs, s => Q (.ok (ds.map Res.d ++ rs)) s
  | .ex c fs, s => Q (.ex c fs) s
theorem w_stG {ds : List D} {x : Option (OutA × Sg T)} {Q : OutA → Sg T → Prop} : wA (stG ds x) Q = wA x (stQ ds Q) := by
  rcases x with _ | ⟨_ | _, _⟩
  · exact propext ⟨(fun ⟨_, _, e, _⟩ => nomatch e), (fun ⟨_, _, e, _⟩ => nomatch e)⟩
  · exact propext ⟨(fun ⟨_, _, e, h⟩ => (by cases e; exact ⟨_, _, rfl, h⟩)), (fun ⟨_, _, e, h⟩ => (by cases e; exact ⟨_, _, rfl, h⟩))⟩
  · exact propext ⟨(fun ⟨_, _, e, h⟩ => (by cases e; exact ⟨_, _, rfl, h⟩)), (fun ⟨_, _, e, h⟩ => (by cases e; exact ⟨_, _, rfl, h⟩))⟩
theorem w_stQ {ds : List D} {Q : OutA → Sg T → Prop} {rs : List Res} {s : Sg T} : stQ ds Q (.ok rs) s = Q (.ok (ds.map Res.d ++ rs)) s := (rfl)
theorem w_stQ_ex {ds : List D} {Q : OutA → Sg T → Prop} {c : Str} {fs : List (Str × D)} {s : Sg T} : stQ ds Q (.ex c fs) s = Q (.ex c fs) s := (rfl)
/-- data that are given: they stay -/
theorem give_data {τ : List Sl} : ∀ (ds : List D) (rs : List Res), giveAll τ (ds.map Res.d ++ rs) = (giveAll τ rs).map fun z => (ds ++ z.1, z.2)
  | [], rs => by
    rw [List.map_nil, List.nil_append]
    cases giveAll τ rs <;> rfl
  | d :: ds, rs => by
    simp only [List.map_cons, List.cons_append, giveAll, give, give_data ds rs]
    cases giveAll τ rs <;> rfl
end
end FD

/-! F49: sorted of pairs of ints. -/
namespace FD
open PySem PySem.Spec PyProof.Rows L2
section
variable {α : Type} {lt : α → α → Bool}
end
section
variable {Z : Wd} {X : Cx} {O : Addr → Prop} {H : Hp}
end
end FD

/-! F50: list(range(a, b)). -/
namespace FD
open PySem PySem.Spec PyProof.Rows L2
section
variable {Z : Wd} {C : Fx Z} {X : Cx}
end
end FD

set_option maxHeartbeats 4000000
/-! F51: the different ints of a list, in order. -/
namespace FD
open PySem PySem.Spec PyProof.Rows L2
abbrev set0 (w : World) : Obj := { cls := .type "set", dict := none, data := .set #[] 0 (.fresh 0 0 (!w.params.followText "set-order")) }
section
variable {P : Program} {w : World} {A : Around} {E : Value → Shared → Prop} {s : Shared}
end
section
variable {Z : Wd} {C : Fx Z} {X : Cx}
end
end FD

set_option maxHeartbeats 4000000
/-! F52: what two sets of ints have in common. -/
namespace FD
open PySem PySem.Spec PyProof.Rows L2
section
variable {P : Program} {w : World} {A : Around} {E : Value → Shared → Prop} {s : Shared}
theorem entry_set_and : entryFor table "set.__and__" = some Builtin.«frozenset.__and__» := entryFor_alias (id' := "frozenset.__and__") (by kernel_rfl) rfl (by decide +kernel) (by kernel_rfl)
theorem setR_type {a : Addr} {S : Int → Bool} {n : Nat} {s : Shared} (r : SetR w s.heap a S n) : s.TypeIs (.ref a) "set" := by
  obtain ⟨o, es, ep, t, ho, hx, _⟩ := r
  exact ⟨o, ho, hx.1⟩
theorem any_set {a : Addr} {Q : Bool → Shared → Prop} (t : s.TypeIs (.ref a) "set") (h : Q true s) : wpAny (model P w) A (Builtin.Frozenset.isAnySet (.ref a)) Q E s := by
  unfold Builtin.Frozenset.isAnySet
  show wpAny _ _ (isInstance (.ref a) (.type "set") >>= _) _ _ s
  exact wpAny_bind (wpAny_isInstance t sub_set_self (wpAny_pure h))
theorem new_set {Q : Value → Shared → Prop} (h : Q (.ref s.heap.objs.size) { s with heap := s.heap.push (set0 w) }) : wpAny (model P w) A (newSet (.type "set")) Q E s := by
  unfold newSet setsByText
  refine wpAny_bind ?_
  refine wpAny_bind (wpAny_askSetting (wpAny_pure ?_))
  exact wpAny_newObj_type h
theorem epoch_of {q : Addr} {o : Obj} {es : Array (Int × Value)} {ep : Nat} {t : SetTable} {Q : Nat → Shared → Prop} (ho : s.heap.get? q = some o) (hd : o.data = .set es ep t) (hf : t.fits es.size = true) (h : Q ep s) : wpAny (model P w) A (setEpoch q) Q E s := by
  unfold setEpoch
  exact wpAny_bind (wpAny_setState_of ho hd hf (wpAny_pure h))
theorem size_of_set {q : Addr} {S : Int → Bool} {n : Nat} {Q : Nat → Shared → Prop} (r : SetR w s.heap q S n) (h : Q n s) : wpAny (model P w) A (Builtin.Frozenset.sizeOf q) Q E s := by
  obtain ⟨o, es, ep, t, ho, _, hd, _, _, _, _, hf, hn, _⟩ := r
  unfold Builtin.Frozenset.sizeOf setEntries
  refine wpAny_bind (wpAny_bind (wpAny_setState_of ho hd hf (wpAny_pure (wpAny_pure ?_))))
  rw [hn]
  exact h
theorem walk_set {q : Addr} {o : Obj} {es : Array (Int × Value)} {ep : Nat} {t : SetTable} {Q : Array (Int × Value) → Shared → Prop} (ho : s.heap.get? q = some o) (hd : o.data = .set es ep t) (hf : t.fits es.size = true)
    (hl : w.params.followText "set-order" = true ∨ t.led = true) (h : ∀ out d, out.toList.Perm es.toList → Q out { s with drawn := d }) : wpAny (model P w) A (setWalk q) Q E s := by
  unfold setWalk
  refine wpAny_bind (wpAny_setState_of ho hd hf ?_)
  dsimp only
  refine wpAny_bind (wpAny_byText ?_)
  cases hb : w.params.followText "set-order" with
  | true =>
    refine wp_if_pos rfl ?_
    exact wpAny_bind (wpAny_askSetting (wpAny_pure (h _ s.drawn (pick_perm _ _))))
  | false =>
    refine wp_if_neg Bool.false_ne_true ?_
    have led : t.led = true := by
      rcases hl with z | z
      · rw [hb] at z
        cases z
      · exact z
    split
    · exact wpAny_bind (drawOrder_at _ _ _ _ (Nat.le_of_eq Array.length_toList) fun ys d hp => wpAny_pure (h _ d (by simpa using hp)))
    · refine wpAny_bind (wpAny_of_eq (a := ()) ?_ (wpAny_pure (h _ s.drawn (.refl _))))
      show (if (!t.led && decide (es.size > 1)) = true then unsupported "set:maker-not-led" else pure ()) = pure ()
      rw [led]
      rfl
/-- the entries hold ints only: nothing is asked of them -/
theorem quiet_one {Q : Bool → Shared → Prop} (l : List Addr) (h : ∀ a ∈ l, ∃ S n, SetR w s.heap a S n) (k : Q true s) : wpAny (model P w) A (setsQuiet l) Q E s := by
  unfold setsQuiet
  refine wpAny_bind (wpAny_forIn_list _ (fun rest b s' => b = (none, ()) ∧ s' = s ∧ ∀ a ∈ rest, ∃ S n, SetR w s.heap a S n) _ ?_ ?_ l _ ⟨rfl, rfl, h⟩)
  · rintro a rest b s' ⟨rfl, rfl, hr⟩
    obtain ⟨Sa, na, o, es, ep, t, ho, _, hd, g, _, _, _, hf, _⟩ := hr a (List.mem_cons_self ..)
    unfold setEntries
    refine wpAny_bind (wpAny_bind (wpAny_setState_of ho hd hf (wpAny_pure ?_)))
    refine wpAny_bind (wpAny_forIn_array' _ (fun rest b s2 => b = (none, ()) ∧ s2 = s' ∧ ∀ e ∈ rest, GoodE e) _ ?_ ?_ es _ ⟨rfl, rfl, g⟩)
    · rintro e rest2 b s2 ⟨rfl, rfl, ge⟩
      obtain ⟨k, tk, e1, _⟩ := ge e (List.mem_cons_self ..)
      obtain ⟨e0, e2⟩ := e
      simp only at e1
      subst e1
      exact wpAny_pure ⟨rfl, rfl, fun x m => ge x (List.mem_cons_of_mem _ m)⟩
    · rintro b s2 ⟨rfl, rfl, _⟩
      exact wpAny_pure ⟨rfl, rfl, fun x m => hr x (List.mem_cons_of_mem _ m)⟩
  · rintro b s' ⟨rfl, rfl, _⟩
    exact wpAny_pure k
theorem walk_unseen {q p r : Addr} {Sq Sp Sr : Int → Bool} {nq np nr : Nat} {o : Obj} {es : Array (Int × Value)} {ep : Nat} {t : SetTable} {Q : Array (Int × Value) → Shared → Prop} (rq : SetR w s.heap q Sq nq) (rp : SetR w s.heap p Sp np) (rr : SetR w s.heap r Sr nr)
    (ho : s.heap.get? q = some o) (hd : o.data = .set es ep t) (hf : t.fits es.size = true) (hl : w.params.followText "set-order" = true ∨ t.led = true)
    (h : ∀ out h' d, out.toList.Perm es.toList → SetR w h' r Sr nr → (∀ a u, a ≠ r → s.heap.get? a = some u → h'.get? a = some u) → Q out { s with heap := h', drawn := d }) :
    wpAny (model P w) A (setWalkUnseen q [p, r] (some r)) Q E s := by
  have walk : wpAny (model P w) A (setWalk q) Q E s := walk_set ho hd hf hl fun out d pm => h out s.heap d pm rr fun _ _ _ e => e
  unfold setWalkUnseen
  refine wpAny_bind (wpAny_setState_of ho hd hf ?_)
  dsimp only
  refine wpAny_bind (wpAny_byText ?_)
  split
  · exact walk
  · rename_i nb
    refine wpAny_bind (quiet_one [q, p, r] (fun a m => ?_) ?_)
    · simp only [List.mem_cons, List.not_mem_nil, or_false] at m
      rcases m with rfl | rfl | rfl
      · exact ⟨_, _, rq⟩
      · exact ⟨_, _, rp⟩
      · exact ⟨_, _, rr⟩
    · refine wp_if_neg (by simp) ?_
      refine wpAny_bind (wpAny_rule ?_)
      have led : t.led = true := by
        rcases hl with z | z
        · rw [z] at nb
          simp at nb
        · exact z
      obtain ⟨o2, es2, ep2, t2, ho2, hx2, hd2, g2, nd2, hm2, hb2, hf2, hn2, hr2, hl2⟩ := id rr
      refine wpAny_bind (wpAny_setState_of ho2 hd2 hf2 ?_)
      dsimp only
      split
      · refine wpAny_bind (wpAny_storeSet_of ho2 hd2 ?_ (fits_of_scanBound hb2))
        exact wpAny_pure (h _ _ s.drawn (.refl _) ⟨_, es2, _, _, store_at ho2 hd2, hx2, rfl, g2, nd2, hm2, hb2, hf2, hn2, hr2, hl2.imp id fun z => by simp [z, led]⟩ fun a u na e => by
          rw [(Heap.SameBut.update s.heap r _).2 a na]
          exact e)
      · exact wpAny_pure (h _ s.heap s.drawn (.refl _) rr fun _ _ _ e => e)
theorem inter_fill {p q r : Addr} {Sp Sq : Int → Bool} {np nq : Nat} {nm : String} {Q : PUnit → Shared → Prop} (pr : p ≠ r) (qr : q ≠ r) (rp : SetR w s.heap p Sp np) (rq : SetR w s.heap q Sq nq) (rr : SetR w s.heap r (fun _ => false) 0)
    (h : ∀ (h' : Heap) (d : Drawn) (c : Nat), SetR w h' r (fun j => Sq j && Sp j) c → (∀ a o, a ≠ r → s.heap.get? a = some o → h'.get? a = some o) → Q ⟨⟩ { s with heap := h', drawn := d }) :
    wpAny (model P w) A (do
      let was ← setEpoch q
      for (h, x) in ← setWalkUnseen q [p, r] (some r) do
        holding [x] do
          if (← setFind p x h).isSome then
            let _ ← setAddHashed r x h
        Builtin.Frozenset.unchanged nm q was) Q E s := by
  obtain ⟨o, es, ep, t, ho, hx, hd, g, nd, hm, hb, hf, hn, hr, hl⟩ := id rq
  refine wpAny_bind (epoch_of ho hd hf ?_)
  refine wpAny_bind (walk_unseen rq rp rr ho hd hf hl fun out h0 d0 pm rr0 k0 => ?_)
  refine wpAny_bind (wpAny_forIn_array' _ (fun rest _ s' => ∃ h' d c done, s' = { s with heap := h', drawn := d } ∧ SetR w h' r (fun j => decide (j ∈ done.map keyOf) && Sp j) c ∧ c ≤ done.length ∧ (done ++ rest).Perm es.toList ∧ ∀ a u, a ≠ r → s.heap.get? a = some u → h'.get? a = some u) _ ?_ ?_ out _ ⟨h0, d0, 0, [], rfl, rr0.congr fun j => by simp, Nat.le_refl _, by simpa using pm, k0⟩)
  · rintro ⟨hx1, x1⟩ rest b s' ⟨h', d, c, done, rfl, r1, cl, pd, kk⟩
    have me : (hx1, x1) ∈ es.toList := pd.mem_iff.mp (by simp)
    obtain ⟨k, tk, e1, e2⟩ := g _ me
    simp only at e1 e2
    subst e1 e2
    have ld : done.length + (rest.length + 1) = es.size := by
      have := pd.length_eq
      simpa using this
    have rp1 : SetR w h' p Sp np := rp.at fun u e => kk p u pr e
    have rq1 := kk q o qr ho
    have kof : keyOf (hashInt k, Value.int k tk) = k := rfl
    refine wpAny_bind (wpAny_holding ?_)
    refine wpAny_bind (wpAny_setFind_of (knd := intKind P w) (k := k) (S := Sp) (intKind_is P w k tk) rfl rp1.setOf fun f hf2 => ?_)
    have tail : ∀ (h2 : Heap) (c2 : Nat), SetR w h2 r (fun j => decide (j ∈ (done ++ [(hashInt k, Value.int k tk)]).map keyOf) && Sp j) c2 → c2 ≤ c + 1 → (∀ a u, a ≠ r → h'.get? a = some u → h2.get? a = some u) →
        wpAny (model P w) A (do
          Builtin.Frozenset.unchanged nm q ep
          pure (ForInStep.yield PUnit.unit)) (fun x s' => x = .yield PUnit.unit ∧ ∃ h' d c done, s' = { s with heap := h', drawn := d } ∧ SetR w h' r (fun j => decide (j ∈ done.map keyOf) && Sp j) c ∧ c ≤ done.length ∧ (done ++ rest).Perm es.toList ∧ ∀ a u, a ≠ r → s.heap.get? a = some u → h'.get? a = some u) E { s with heap := h2, drawn := d } := fun h2 c2 r2 le k2 => by
      unfold Builtin.Frozenset.unchanged
      refine wpAny_bind (wpAny_bind (epoch_of (k2 q o qr rq1) hd hf (wp_if_neg (by simp) (wpAny_pure ?_))))
      exact wpAny_pure ⟨rfl, h2, d, c2, done ++ [(hashInt k, Value.int k tk)], rfl, r2, by simp; omega, by simpa using pd, fun a u na e => k2 a u na (kk a u na e)⟩
    cases hs : Sp k with
    | true =>
      rw [hs] at hf2
      refine wp_if_pos hf2 ?_
      refine wpAny_bind (setR_add_hashed r1 (by omega) fun h2 sb r2 => wpAny_pure ?_)
      refine wpAny_mono (tail h2 _ (r2.congr fun j => ?_) (by split <;> omega) fun a u na e => by rw [sb.2 a na]; exact e) (fun x s' hx => by obtain ⟨rfl, z⟩ := hx; exact z) fun _ _ h => h
      have dk : decide (j ∈ (done ++ [(hashInt k, Value.int k tk)]).map keyOf) = (decide (j ∈ done.map keyOf) || decide (j = k)) := by
        rw [Bool.eq_iff_iff, Bool.or_eq_true, decide_eq_true_iff, decide_eq_true_iff, decide_eq_true_iff, List.map_append, List.mem_append, List.map_cons, List.map_nil, List.mem_singleton, kof]
      rw [dk]
      by_cases z : j = k
      · subst z
        simp [hs]
      · simp only [z, decide_false, Bool.or_false]
    | false =>
      rw [hs] at hf2
      refine wp_if_neg (by rw [hf2]; exact Bool.false_ne_true) (wpAny_pure ?_)
      refine wpAny_mono (tail h' _ (r1.congr fun j => ?_) (by omega) fun a u na e => e) (fun x s' hx => by obtain ⟨rfl, z⟩ := hx; exact z) fun _ _ h => h
      have dk : decide (j ∈ (done ++ [(hashInt k, Value.int k tk)]).map keyOf) = (decide (j ∈ done.map keyOf) || decide (j = k)) := by
        rw [Bool.eq_iff_iff, Bool.or_eq_true, decide_eq_true_iff, decide_eq_true_iff, decide_eq_true_iff, List.map_append, List.mem_append, List.map_cons, List.map_nil, List.mem_singleton, kof]
      rw [dk]
      by_cases z : j = k
      · subst z
        simp [hs]
      · simp only [z, decide_false, Bool.or_false]
  · rintro b s' ⟨h', d, c, done, rfl, r1, cl, pd, kk⟩
    rw [List.append_nil] at pd
    refine wpAny_pure (h h' d c (r1.congr fun j => ?_) kk)
    have : decide (j ∈ done.map keyOf) = Sq j := by
      rw [Bool.eq_iff_iff, decide_eq_true_iff, (pd.map keyOf).mem_iff, hm j]
    rw [this]
theorem inter_sets {a b : Addr} {Sa Sb : Int → Bool} {na nb : Nat} {nm : String} {Q : Value → Shared → Prop} (ne : a ≠ b) (ra : SetR w s.heap a Sa na) (rb : SetR w s.heap b Sb nb)
    (h : ∀ (h' : Heap) (d : Drawn) (c : Nat), SetR w h' s.heap.objs.size (fun j => Sa j && Sb j) c → (∀ p o, s.heap.get? p = some o → h'.get? p = some o) → Q (.ref s.heap.objs.size) { s with heap := h', drawn := d }) :
    wpAny (model P w) A (Builtin.Frozenset.intersection nm a (.ref b)) Q E s := by
  have ta := setR_type ra
  have tb := setR_type rb
  have e1 : (Value.ref b == Value.ref a) = false := by simpa using Ne.symm ne
  unfold Builtin.Frozenset.intersection
  rw [e1]
  simp only [Bool.false_eq_true, if_false]
  unfold Builtin.Frozenset.baseOf
  refine wpAny_bind (wpAny_bind (wpAny_isInstance ta sub_set_self (wpAny_pure ?_)))
  simp only [if_true]
  refine wpAny_bind (new_set ?_)
  have la := Heap.lt_size ra.choose_spec.choose_spec.choose_spec.choose_spec.1
  have lb := Heap.lt_size rb.choose_spec.choose_spec.choose_spec.choose_spec.1
  have ra1 : SetR w (s.heap.push (set0 w)) a Sa na := ra.at fun o e => Heap.get?_push_of_some _ e
  have rb1 : SetR w (s.heap.push (set0 w)) b Sb nb := rb.at fun o e => Heap.get?_push_of_some _ e
  have r0 : SetR w (s.heap.push (set0 w)) s.heap.objs.size (fun _ => false) 0 := (setR_new_at (ns := []) (Heap.get?_push_size _ rfl)).congr fun j => by simp
  have fin : ∀ (S : Int → Bool), (∀ j, S j = (Sa j && Sb j)) → ∀ (h' : Heap) (d : Drawn) (c : Nat), SetR w h' s.heap.objs.size S c → (∀ p o, p ≠ s.heap.objs.size → (s.heap.push (set0 w)).get? p = some o → h'.get? p = some o) → Q (.ref s.heap.objs.size) { s with heap := h', drawn := d } :=
    fun S eS h' d c r k => h h' d c (r.congr fun j => (eS j).symm) fun p o e => k p o (Nat.ne_of_lt (Heap.lt_size e)) (Heap.get?_push_of_some _ e)
  refine wpAny_bind (wpAny_pure ?_)
  refine wpAny_bind (wpAny_holding ?_)
  refine wpAny_bind (any_set (setR_type rb1) ?_)
  refine wp_if_pos rfl ?_
  refine wpAny_bind (wpAny_pure ?_)
  refine wpAny_bind (size_of_set rb1 ?_)
  refine wpAny_bind (size_of_set ra1 ?_)
  by_cases lt : nb > na
  · simp only [if_pos lt]
    exact inter_fill (p := b) (q := a) (Nat.ne_of_lt lb) (Nat.ne_of_lt la) rb1 ra1 r0 fun h' d c r k => wpAny_pure (fin _ (fun j => rfl) h' d c r k)
  · simp only [if_neg lt]
    exact inter_fill (p := a) (q := b) (Nat.ne_of_lt la) (Nat.ne_of_lt lb) ra1 rb1 r0 fun h' d c r k => wpAny_pure (fin _ (fun j => Bool.and_comm _ _) h' d c r k)
theorem and_sets {a b : Addr} {Sa Sb : Int → Bool} {na nb : Nat} {Q : Value → Shared → Prop} (ne : a ≠ b) (ra : SetR w s.heap a Sa na) (rb : SetR w s.heap b Sb nb)
    (h : ∀ (h' : Heap) (d : Drawn) (c : Nat), SetR w h' s.heap.objs.size (fun j => Sa j && Sb j) c → (∀ p o, s.heap.get? p = some o → h'.get? p = some o) → Q (.ref s.heap.objs.size) { s with heap := h', drawn := d }) :
    wpAny (model P w) A (binaryOp .BitAnd (.ref a) (.ref b)) Q E s := by
  have ta := setR_type ra
  have tb := setR_type rb
  refine wpAny_binaryOp_same ta tb PySem.F.fills_set_and PySem.F.slot_set_and ?_
  refine wpAny_call_entry PySem.F.slot_set_and ta entry_set_and ?_ (PySem.F.args_set_and_2 _ _)
  show wpAny _ _ (Builtin.Frozenset.slot1 "__and__" ⟨[.ref a, .ref b], []⟩ >>= _) _ _ s
  refine wpAny_bind ?_
  unfold Builtin.Frozenset.slot1
  show wpAny _ _ (pure (Value.ref a, Value.ref b)) _ _ s
  refine wpAny_pure ?_
  simp only [Bool.false_eq_true, if_false]
  refine wpAny_bind ?_
  show wpAny _ _ (Builtin.Frozenset.isAnySet (.ref a) >>= _) _ _ s
  refine wpAny_bind (any_set ta ?_)
  refine any_set tb ?_
  refine wp_if_neg (by simp) ?_
  refine wpAny_bind (wpAny_pure ?_)
  refine wpAny_bind (inter_sets ne ra rb fun h' d c r k => ?_)
  exact wpAny_pure ⟨_, rfl, (fun z => nomatch z), h h' d c r k⟩
end
end FD

set_option maxHeartbeats 4000000
/-! F53: how many ints two tuples have in common. -/
namespace FD
open PySem PySem.Spec PyProof.Rows L2
def setOkD : Option D → Bool
  | some (.tup ds) => match intsD ds with
    | some ns => decide (ns.length ≤ 4000)
    | none => false
  | _ => false
/-- how many different ints are in both -/
def comL (as bs : List Int) : Nat := ((ascL as).filter fun x => decide (x ∈ bs)).length
def lenAndD : D → D → Option (D × Bool)
  | .tup ds, .tup es => match intsD ds, intsD es with
    | some as, some bs => if bs.length ≤ 4000 then some (.int (comL as bs : Nat), false) else none
    | _, _ => none
  | _, _ => none
def andG (ra : Res) (rb : Res) (τ : List Sl) : Option (D × Bool) := match peek τ (hold ra), peek τ (hold rb) with
  | some x, some y => lenAndD x y
  | _, _ => none
def andK {T : Type} (fb : EF T) (ra : Res) : EF T := fun s => if setOkD (peek s.1 (hold ra)) = true then bindF fb (fun rb => doneF (andG ra rb)) s else none
def lenAndF {T : Type} (fa fb : EF T) : EF T := bindF fa (andK fb)
theorem setOkD_some {o : Option D} (h : setOkD o = true) : ∃ ds ns, o = some (.tup ds) ∧ intsD ds = some ns ∧ ns.length ≤ 4000 := by
  unfold setOkD at h
  split at h
  · rename_i ds
    split at h
    · rename_i ns e
      exact ⟨ds, ns, rfl, e, of_decide_eq_true h⟩
    · cases h
  · cases h
theorem setR_common {w : World} {h : Heap} {a : Addr} {as bs : List Int} {c : Nat} (r : SetR w h a (fun j => decide (j ∈ as) && decide (j ∈ bs)) c) : c = comL as bs := by
  obtain ⟨o, es, ep, t, _, _, _, _, nd, hm, _, _, hn, _⟩ := r
  have p : (es.toList.map keyOf).Perm ((ascL as).filter fun x => decide (x ∈ bs)) := (List.perm_ext_iff_of_nodup nd ((ascL_asc.imp fun h => Int.ne_of_lt h).sublist List.filter_sublist)).mpr fun k => by
    rw [← hm k, List.mem_filter, mem_ascL, Bool.and_eq_true, decide_eq_true_iff]
  unfold comL
  rw [← hn, ← p.length_eq, List.length_map, Array.length_toList]
section
variable {Z : Wd} {C : Fx Z} {X : Cx}
theorem ev_lenAnd {a b : Expr} {fa fb : EF Z.T} {p p2 p3 q2 q3 pb pos : Pos} (hg : Gl X "len") (hm : X.mg "len" = none) (hg2 : Gl X "set") (hm2 : X.mg "set" = none) (ha : PE X a (tF C fa)) (hb : PE X b (tF C fb)) (hc : X.calm = true := by rfl)
    (na : starEach [a] X.env = (false, eval a X.env) :: starEach [] X.env := by rfl) (nb : starEach [b] X.env = (false, eval b X.env) :: starEach [] X.env := by rfl) :
    PE X (.Call (.Name "len" p) [.BinOp (.Call (.Name "set" p2) [a] [] q2) .BitAnd (.Call (.Name "set" p3) [b] [] q3) pb] [] pos) (tF C (lenAndF fa fb)) := by
  refine ⟨fun pins s σ H Q I h => ?_⟩
  obtain ⟨ow, τ, t, R, h0, h⟩ := h.at_
  have h := h.bind R h0
  refine Call_ (ld_blt I hg hm boot_len (PyProof.Rows.callWith_builtin1 (PyProof.Rows.args_cons (wpAny_BinOp (Call_ (ld_blt I hg2 hm2 boot_set (PyProof.Rows.callWith_type1 (PyProof.Rows.args_cons (thn (ha.run pins s σ H _ I h) fun v s1 got => PyProof.Rows.args_nil ?_) na) na rfl)))) rfl) rfl rfl))
  obtain ⟨x, H1, I1, rx, ow1, τ1, t1, ra, R1, r1, h1, _⟩ := got
  obtain ⟨ow2, R2, z2, r2, x2⟩ := r1.hold R1
  obtain ⟨o, s', e, fin⟩ := h1.from x2
  unfold andK at e
  split at e
  · rename_i ok
    have kn : Kn C (bindF fb fun rb => doneF (andG ra rb)) ow2 τ1 t1 σ H1 Q := ⟨o, s', e, fin⟩
    obtain ⟨ds, ns, pa, ei, ln⟩ := setOkD_some ok
    obtain ⟨l, xs, rfl, hl1, dn, no1⟩ := (r2.peek R2 pa).tup
    cases rx
    have ex := denA_of_ints dn ei
    subst ex
    obtain ⟨its, rv, pt, hz⟩ := I1.tuple (SqT.of hl1)
    have hi : PyProof.Rows.IntsAre its.toArray.toList ns := by simpa using vals_ints' rv
    refine call_set_tupI ns (I1.ok.hd hc) (show s1.heap.IsTuple l its.toArray from pt) hi (by unfold scanBound; omega) fun h' tk c R1s hcn k => ?_
    have I2 : Inv X pins σ H1 { s1 with heap := h', toks := tk } := I1.kept k
    obtain ⟨o1, es1, ep1, t1', ho1, hex1, hd1, _⟩ := id R1s
    have pin1 : h'.get? s1.heap.objs.size = some o1 ∧ H1 s1.heap.objs.size = none ∧ s1.heap.objs.size ≠ X.env.locals ∧ s1.heap.objs.size ∉ X.fs ∧ ∀ v, o1.data ≠ .cell v :=
      ⟨ho1, I1.hok.fresh (Nat.le_refl _), Nat.ne_of_gt I1.lt, I1.nofs (Nat.le_refl _), fun v z => by rw [hd1] at z; cases z⟩
    have I3 : Inv X ((s1.heap.objs.size, o1) :: pins) σ H1 { s1 with heap := h', toks := tk } := I2.pins_of fun q hq => by
      rcases List.mem_cons.mp hq with rfl | hq
      · exact pin1
      · exact I2.pin q (List.mem_append_right _ hq)
    refine Call_ (ld_blt I3 hg2 hm2 boot_set (PyProof.Rows.callWith_type1 (PyProof.Rows.args_cons (thn (hb.run _ _ σ H1 _ I3 (kn.bind R2 z2)) fun v2 s3 got2 => PyProof.Rows.args_nil ?_) nb) nb rfl))
    obtain ⟨y, H2, I4, ry, ow3, τ3, t3, rb, R3, r3, h3, x3⟩ := got2
    obtain ⟨ow4, R4, z4, r4, x4⟩ := r3.hold R3
    obtain ⟨z, ez, fz⟩ := (h3.from x4).done R4 z4
    unfold andG at ez
    cases pa2 : peek τ3 (hold ra) with
    | none => simp only [pa2] at ez; cases ez
    | some dx =>
      cases pb2 : peek τ3 (hold rb) with
      | none => simp only [pa2, pb2] at ez; cases ez
      | some dy =>
        simp only [pa2, pb2] at ez
        unfold lenAndD at ez
        split at ez
        · split at ez
          · rename_i ds2 es2 as bs ea eb
            split at ez
            · rename_i lb
              cases ez
              obtain ⟨l2, ys, eq2, hl2, dn2, _⟩ := (r2.later R4 (x3.trans x4) pa2).tup
              cases eq2
              have same := (x3.trans x4).1 l _ hl1 no1
              rw [hl2] at same
              cases same
              have exa := denA_of_ints dn2 ea
              have eas : as = ns := ((List.map_inj_right (fun a b h => V.int.inj h)).mp exa).symm
              subst eas
              obtain ⟨m, zs, rfl, hm1, dm, _⟩ := (r4.peek R4 pb2).tup
              cases ry
              have exb := denA_of_ints dm eb
              subst exb
              obtain ⟨its2, rv2, pt2, hz2⟩ := I4.tuple (SqT.of hm1)
              have hi2 : PyProof.Rows.IntsAre its2.toArray.toList bs := by simpa using vals_ints' rv2
              have pin3 := I4.pin (s1.heap.objs.size, o1) (List.mem_append_right _ (List.mem_cons_self ..))
              refine call_set_tupI bs (I4.ok.hd hc) (show s3.heap.IsTuple m its2.toArray from pt2) hi2 (by unfold scanBound; omega) fun h4 tk4 c4 R2s hcn4 k4 => ?_
              have R1t : SetR X.w h4 s1.heap.objs.size (fun j => decide (j ∈ as)) c := R1s.at fun o2 e2 => by
                rw [ho1] at e2
                cases e2
                exact k4 _ _ pin3.1
              have lt : s1.heap.objs.size < s3.heap.objs.size := Heap.lt_size pin3.1
              have I5 : Inv X ((s1.heap.objs.size, o1) :: pins) σ H2 { s3 with heap := h4, toks := tk4 } := I4.kept k4
              refine and_sets (Nat.ne_of_lt lt) R1t R2s fun h5 d5 c5 r5 k5 => PyProof.Rows.args_nil ?_
              have I6 : Inv X ((s1.heap.objs.size, o1) :: pins) σ H2 { s3 with heap := h5, drawn := d5, toks := tk4 } :=
                I5.call (s := { s3 with heap := h4, toks := tk4 }) (ch := []) (Un.kept k5) (I5.hok.kept k5) I5.bare (fun _ z => nomatch z)
              have I7 : Inv X pins σ H2 { s3 with heap := h5, drawn := d5, toks := tk4 } := I6.pins_of fun q hq => I6.pin q (List.mem_append_right _ (List.mem_cons_of_mem _ hq))
              have ec := setR_common r5
              obtain ⟨o5, es5, ep5, t5, ho5, hex5, hd5, _, _, _, hb5, hf5, hn5, _⟩ := r5
              refine call_len_set ho5 hex5 hd5 hf5 (by unfold scanBound at hb5; omega) ⟨.int _, H2, I7.tok _, ⟨_, rfl⟩, ?_⟩
              rw [hn5, ec]
              exact fz _ H2 ⟨.refl, .int _⟩
            · cases ez
          · cases ez
        · cases ez
  · cases e
end
/-! ### tuple(range(a, b)) -/
section
variable {Z : Wd} {C : Fx Z} {X : Cx}
end
end FD

set_option maxHeartbeats 4000000
/-! F54: comparisons with three signs; repr of any datum. -/
namespace FD
open PySem PySem.Spec PyProof.Rows L2
section
variable {Z : Wd} {C : Fx Z} {X : Cx} {σ : L2.St}
end
/-! ### repr of any datum -/
def reprXD : List D → Option (D × Bool)
  | [.non] => some (.str (Str.ofString "None"), false)
  | [.bl b] => some (.str (if b then "True" else "False"), false)
  | [.int i] => if i.natAbs.log2 < 1920 then some (.str (toString i), false) else none
  | [.str x] => if (reprText x).length ≤ sizeLine then some (.str (reprText x), false) else none
  | [.dct []] => some (.str (dictText []), false)
  | ds => reprD ds
theorem cD_reprX {Z : Wd} {X : Cx} (hG : X.A.guards = some []) (hu : X.A.units + 64 < cLine) : CallD Z X (.builtin "repr") reprXD := by
  intro pins s σ H xs us Q I r h
  obtain ⟨O, ds, z, hO, sh, e, q⟩ := h
  unfold reprXD at e
  split at e
  · cases e
    cases sh with
    | cons sx sr =>
      cases sr
      obtain rfl := sx.non
      obtain ⟨u, rfl, ru⟩ := vals1 r
      cases (show u = Value.none from ru)
      exact PySem.P.repr_of_none ⟨.str _, H, I.tok _, ⟨_, rfl⟩, q _ _ (.same (.str _))⟩
  · cases e
    rename_i b
    cases sh with
    | cons sx sr =>
      cases sr
      obtain rfl := sx.bl
      obtain ⟨u, rfl, ru⟩ := vals1 r
      cases (show u = Value.bool b from ru)
      exact PySem.P.repr_of_bool ⟨.str _, H, I.tok _, ⟨_, rfl⟩, q _ _ (.same (.str _))⟩
  · rename_i i
    split at e
    · rename_i hi
      cases e
      cases sh with
      | cons sx sr =>
        cases sr
        obtain rfl := sx.int
        obtain ⟨u, rfl, t, rfl⟩ := vals1 r
        exact PySem.P.repr_of_int hi ⟨.str _, H, I.tok _, ⟨_, rfl⟩, q _ _ (.same (.str _))⟩
    · cases e
  · rename_i x
    split at e
    · rename_i hx
      cases e
      cases sh with
      | cons sx sr =>
        cases sr
        obtain rfl := sx.str
        obtain ⟨u, rfl, t, rfl⟩ := vals1 r
        exact PySem.P.repr_of_str ⟨.str _, H, I.tok _, ⟨_, rfl⟩, q _ _ (.same (.str _))⟩ hx
    · cases e
  · cases e
    cases sh with
    | cons sx sr =>
      cases sr
      obtain ⟨a, xs, rfl, h1, c1⟩ := sx.dct
      cases c1
      obtain ⟨u, rfl, ru⟩ := vals1 r
      cases (show u = Value.ref a from ru)
      obtain ⟨ns, o, n, ho, hc, hd⟩ := dict0 I h1
      refine call_repr_slot (by omega) ⟨_, ho, hc⟩ PySem.F.slot_dict_repr ?_
      exact call_dict_reprK (A := X.A.in1) (as := []) (d := 0) ho hc hd ns (by simp) (ReprEntriesK.of_two [] [] [] .nil .nil) hG (fun b _ => Clear.nil b) (by show X.A.units + 1 + _ < cLine; omega) (fun _ _ z => z)
        (fun h' u' tk hk => ⟨_, _, rfl, .str _, H, I.kept hk, ⟨_, rfl⟩, q _ _ (.same (.str _))⟩)
  · exact cD_repr hG hu pins s σ H xs us Q I r ⟨O, _, z, hO, sh, e, q⟩
end FD

set_option maxHeartbeats 4000000
/-! F55: functions as values. -/
namespace FD
open PySem PySem.Spec PyProof.Rows L2
section
variable {Z : Wd} {C : Fx Z} {X : Cx}
end
/-! ### run by simp -/
end FD

set_option maxHeartbeats 4000000
/-! F56: x[k] op= e on an own list of ints. -/
namespace FD
open PySem PySem.Spec PyProof.Rows L2
section
variable {Z : Wd} {C : Fx Z} {X : Cx}
end
section
variable {T : Type}
end
end FD

set_option maxHeartbeats 4000000
/-! F57: count and index of a list of truth values; isinstance of a handled exception and a class of Python's own. -/
namespace FD
open PySem PySem.Spec PyProof.Rows L2
section
variable {X : Cx}
end
section
variable {Z : Wd} {C : Fx Z} {X : Cx} {O : Addr → Prop} {H : Hp}
end
/-! ### isinstance(n, ValueError) -/
section
variable {Z : Wd} {C : Fx Z} {X : Cx} {a : Addr} {oe : Obj} {cls : Value} {d : Option Addr} {pn : List (Addr × Obj)}
end
end FD

set_option maxHeartbeats 4000000
/-! F58: texts: their methods, parts, signs. -/
namespace FD
open PySem PySem.Spec PyProof.Rows L2
def isStrO : Option D → Bool
  | some (.str _) => true
  | _ => false
def op2O (op : D → D → Option (D × Bool)) (ra rb : Res) (τ : List Sl) : Option (D × Bool) := match peek τ (hold ra), peek τ (hold rb) with
  | some x, some y => op x y
  | _, _ => none
def mthK {T : Type} (op : D → D → Option (D × Bool)) (fb : EF T) (ra : Res) : EF T := fun s => if isStrO (peek s.1 (hold ra)) = true then bindF fb (fun rb => doneF (op2O op ra rb)) s else none
/-- a text's method with one argument -/
def mth1F {T : Type} (op : D → D → Option (D × Bool)) (fa fb : EF T) : EF T := bindF fa (mthK op fb)
theorem isStrO_some {o : Option D} (h : isStrO o = true) : ∃ a, o = some (.str a) := by
  unfold isStrO at h
  split at h
  · exact ⟨_, rfl⟩
  · cases h
/-! ### what they say -/
def txB (g : Str → Bool) : D → Option (D × Bool)
  | .str a => some (.bl (g a), false)
  | _ => none
def startsD : D → D → Option (D × Bool)
  | .str a, .str b => some (.bl (Txt.startswith a b), false)
  | _, _ => none
def strsD : List D → Option (List Str)
  | [] => some []
  | .str x :: r => (strsD r).map fun xs => x :: xs
  | _ => none
theorem strsD_map : ∀ xs : List Str, strsD (xs.map D.str) = some xs
  | [] => rfl
  | x :: r => by simp [strsD, strsD_map r]
def joinG (a : Str) (ys : List Str) : Option (D × Bool) := if (ys.map (·.length)).sum + ys.length * a.length ≤ 16777216 then some (.str (Txt.join a ys), false) else none
def joinD : D → D → Option (D × Bool)
  | .str a, .lst ds => (strsD ds).bind (joinG a)
  | .str a, .tup ds => (strsD ds).bind (joinG a)
  | _, _ => none
def splitD : D → D → Option (D × Bool)
  | .str a, .str b => if (b.length == 0) = false ∧ a.length ≤ 1000000 then some (.lst ((Txt.split a b).map D.str), true) else none
  | _, _ => none
def addSD : D → D → Option (D × Bool)
  | .str a, .str b => if a.length + b.length ≤ 1000000 then some (.str (a ++ b), false) else none
  | _, _ => none
def intSD : List D → Option (D × Bool)
  | [.str a] => if a.length ≤ 640 then (PySem.intText? a).map fun n => (.int n, false) else none
  | _ => none
def lenSD : List D → Option (D × Bool)
  | [.str a] => if a.length ≤ 1000000 then some (.int (a.length : Nat), false) else none
  | _ => none
def sliceSD : D → Option Int → Option Int → Option (D × Bool)
  | .str z, lo, hi => if z.length ≤ 1000000 then some (.str (cutS z lo hi), false) else none
  | _, _, _ => none
def slTF {T : Type} (bl bh : Bool) (f g h : EF T) : EF T := bindF f fun ra => partF bl g fun lo => partF bh h fun hi => doneF fun τ => match peek τ (hold ra) with
  | some x => sliceSD x lo hi
  | none => none
section
variable {Z : Wd} {C : Fx Z} {X : Cx}
theorem line6 {n : Nat} (h : n ≤ 1000000) : n ≤ sizeLine := by rw [sizeLine_eq]; omega
theorem DenA.strs {O : Addr → Prop} {H : Hp} : ∀ {vs : List V} {ds : List D} {xs : List Str}, DenA Z O H vs ds → strsD ds = some xs → vs = xs.map V.str
  | _, _, _, .nil, e => by cases e; rfl
  | _, d :: ds, xs, .cons h r, e => by
    cases d with
    | str x =>
      simp only [strsD, Option.map_eq_some_iff] at e
      obtain ⟨xs', e1, rfl⟩ := e
      have hx := (Shows.den h).str
      rw [hx, DenA.strs r e1]
      rfl
    | _ => simp [strsD] at e
theorem denA_strs {O : Addr → Prop} {H : Hp} : ∀ xs : List Str, DenA Z O H (xs.map V.str) (xs.map D.str)
  | [] => .nil
  | x :: r => .cons (.str x) (denA_strs r)
/-! ### methods -/
theorem ev_mth0 {id : String} {name : Str} {o : Expr} {apos pos : Pos} {g : Str → Bool} {fo : EF Z.T} (slot : Slot "str" name id) (ty : typeOf (.builtin id) = pure (.type "method_descriptor"))
    (rule : MtR X id (fun x xs H Q => ∃ a, x = .str a ∧ xs = [] ∧ True ∧ Q (.bl (g a)) H)) (ho : PE X o (tF C fo))
    (hbase : attributeBase o name X.env (eval o X.env) = eval o X.env := by rfl) (hline : (apos.endLine == pos.line) = true := by rfl) : PE X (.Call (.Attribute o name apos) [] [] pos) (tF C (unF (txB g) fo)) :=
  ⟨fun pins s σ H Q I h => (pe_m0 slot ty rule ho hbase hline).run pins s σ H Q I (tF_mono (tUn_of h) fun x H1 ⟨O, dx, z, hO, sx, e, q⟩ => by
    unfold txB at e
    split at e
    · cases e
      have hx := sx.str
      subst hx
      exact ⟨⟨_, rfl⟩, _, rfl, rfl, trivial, q _ _ (.same (.bl _))⟩
    · cases e)⟩
theorem ev_isdigit {o : Expr} {apos pos : Pos} {fo : EF Z.T} (ho : PE X o (tF C fo)) (hbase : attributeBase o "isdigit" X.env (eval o X.env) = eval o X.env := by rfl) (hline : (apos.endLine == pos.line) = true := by rfl) :
    PE X (.Call (.Attribute o "isdigit" apos) [] [] pos) (tF C (unF (txB Txt.isdigit) fo)) := ev_mth0 F.slot_str_isdigit F.type_str_isdigit mt_isdigit ho hbase hline
theorem ev_isascii {o : Expr} {apos pos : Pos} {fo : EF Z.T} (ho : PE X o (tF C fo)) (hbase : attributeBase o "isascii" X.env (eval o X.env) = eval o X.env := by rfl) (hline : (apos.endLine == pos.line) = true := by rfl) :
    PE X (.Call (.Attribute o "isascii" apos) [] [] pos) (tF C (unF (txB Txt.isascii) fo)) := ev_mth0 F.slot_str_isascii F.type_str_isascii mt_isascii ho hbase hline
theorem mth1_of {op : D → D → Option (D × Bool)} {r : V → List V → Hp → VK → Prop} {fo fe : EF Z.T} {σ : L2.St} {H : Hp} {Q : VK}
    (hop : ∀ (x y : V) (H : Hp) (Q : VK), rD2 Z op x y H Q → r x [y] H Q) (h : tF C (mth1F op fo fe) σ H Q) : tM1 r (tF C fo) (tF C fe) σ H Q := by
  obtain ⟨ow, τ, t, R, h0, h⟩ := h.at_
  refine tF_mono (h.bind R h0) fun x H1 ⟨ow1, τ1, t1, ra, R1, r1, h1, _⟩ => ?_
  obtain ⟨ow2, R2, z2, r2, x2⟩ := r1.hold R1
  obtain ⟨o, s', e, fin⟩ := h1.from x2
  unfold mthK at e
  split at e
  · rename_i ok
    have kn : Kn C (bindF fe fun rb => doneF (op2O op ra rb)) ow2 τ1 t1 σ H1 Q := ⟨o, s', e, fin⟩
    obtain ⟨a, pa⟩ := isStrO_some ok
    have hx := (r2.peek R2 pa).str
    subst hx
    refine ⟨⟨_, rfl⟩, tF_mono (kn.bind R2 z2) fun y H2 ⟨ow3, τ3, t3, rb, R3, r3, h3, x3⟩ => ?_⟩
    obtain ⟨ow4, R4, z4, r4, x4⟩ := r3.hold R3
    obtain ⟨z, ez, fz⟩ := (h3.from x4).done R4 z4
    unfold op2O at ez
    cases pa2 : peek τ3 (hold ra) with
    | none => simp only [pa2] at ez; cases ez
    | some dx =>
      cases pb2 : peek τ3 (hold rb) with
      | none => simp only [pa2, pb2] at ez; cases ez
      | some dy =>
        simp only [pa2, pb2] at ez
        exact hop _ _ _ _ ⟨_, dx, dy, z, fun p hp => R4.nohid hp, r2.later R4 (x3.trans x4) pa2, r4.peek R4 pb2, ez, fz⟩
  · cases e
theorem ev_startswith {o e : Expr} {apos pos : Pos} {fo fe : EF Z.T} (ho : PE X o (tF C fo)) (he : PE X e (tF C fe)) (hs : starEach [e] X.env = [(false, eval e X.env)] := by rfl) (hbase : attributeBase o "startswith" X.env (eval o X.env) = eval o X.env := by rfl)
    (hline : (apos.endLine == pos.line) = true := by rfl) : PE X (.Call (.Attribute o "startswith" apos) [e] [] pos) (tF C (mth1F startsD fo fe)) :=
  ⟨fun pins s σ H Q I h => (pe_m1 F.slot_str_startswith F.type_str_startswith mt_startswith ho he hs hbase hline).run pins s σ H Q I (mth1_of (fun x y H Q ⟨O, dx, dy, z, hO, sx, sy, e, q⟩ => by
    unfold startsD at e
    split at e
    · cases e
      have hx := sx.str
      have hy := sy.str
      subst hx hy
      exact ⟨_, _, rfl, rfl, q _ _ (.same (.bl _))⟩
    · cases e) h)⟩
theorem ev_join {o e : Expr} {apos pos : Pos} {fo fe : EF Z.T} (ho : PE X o (tF C fo)) (he : PE X e (tF C fe)) (hs : starEach [e] X.env = [(false, eval e X.env)] := by rfl) (hbase : attributeBase o "join" X.env (eval o X.env) = eval o X.env := by rfl)
    (hline : (apos.endLine == pos.line) = true := by rfl) : PE X (.Call (.Attribute o "join" apos) [e] [] pos) (tF C (mth1F joinD fo fe)) :=
  ⟨fun pins s σ H Q I h => (pe_join ho he hs hbase hline).run pins s σ H Q I (mth1_of (fun x y H Q ⟨O, dx, dy, z, hO, sx, sy, e, q⟩ => by
    unfold joinD at e
    split at e
    · have hx := sx.str
      subst hx
      obtain ⟨ys, e1, e2⟩ := Option.bind_eq_some_iff.mp e
      obtain ⟨b, xs, rfl, h1, c1⟩ := sy.lst
      have hx := c1.strs e1
      subst hx
      unfold joinG at e2
      split at e2
      · rename_i hz
        cases e2
        exact ⟨_, b, ys, rfl, rfl, .inl (SqL.of h1), hz, q _ _ (.same (.str _))⟩
      · cases e2
    · have hx := sx.str
      subst hx
      obtain ⟨ys, e1, e2⟩ := Option.bind_eq_some_iff.mp e
      obtain ⟨b, xs, rfl, h1, c1, _⟩ := sy.tup
      have hx := c1.strs e1
      subst hx
      unfold joinG at e2
      split at e2
      · rename_i hz
        cases e2
        exact ⟨_, b, ys, rfl, rfl, .inr (SqT.of h1), hz, q _ _ (.same (.str _))⟩
      · cases e2
    · cases e) h)⟩
theorem ev_split {o e : Expr} {apos pos : Pos} {fo fe : EF Z.T} (ho : PE X o (tF C fo)) (he : PE X e (tF C fe)) (hs : starEach [e] X.env = [(false, eval e X.env)] := by rfl) (hbase : attributeBase o "split" X.env (eval o X.env) = eval o X.env := by rfl)
    (hline : (apos.endLine == pos.line) = true := by rfl) : PE X (.Call (.Attribute o "split" apos) [e] [] pos) (tF C (mth1F splitD fo fe)) :=
  ⟨fun pins s σ H Q I h => (pe_split ho he hs hbase hline).run pins s σ H Q I (mth1_of (fun x y H Q ⟨O, dx, dy, z, hO, sx, sy, e, q⟩ => by
    unfold splitD at e
    split at e
    · split at e
      · rename_i hc
        cases e
        have hx := sx.str
        have hy := sy.str
        subst hx hy
        refine ⟨_, _, rfl, rfl, hc.1, ?_, fun p hp => q _ _ (.lst hp (denA_strs _))⟩
        rw [sizeLine_eq]
        have := hc.2
        omega
      · cases e
    · cases e) h)⟩
/-! ### signs -/
theorem opD_addS : OpD Z X (binaryOp .Add) addSD := by
  intro pins s σ H x y v u Q I rx ry h
  obtain ⟨O, dx, dy, z, hO, sx, sy, e, q⟩ := h
  unfold addSD at e
  split at e
  · split at e
    · rename_i hc
      cases e
      have hx := sx.str
      have hy := sy.str
      subst hx hy
      exact op_add_str pins s σ H _ _ v u Q I rx ry ⟨_, _, rfl, rfl, line6 hc, q _ _ (.same (.str _))⟩
    · cases e
  · cases e
theorem cD_intS : CallD Z X (.type "int") intSD := by
  intro pins s σ H xs us Q I r h
  obtain ⟨O, ds, z, hO, sh, e, q⟩ := h
  unfold intSD at e
  split at e
  · split at e
    · rename_i hl
      obtain ⟨n, en, ez⟩ := Option.map_eq_some_iff.mp e
      cases ez
      cases sh with
      | cons sx sr =>
        cases sr
        have hx := sx.str
        subst hx
        exact call_int_str pins s σ H _ us Q I r ⟨_, n, rfl, en, hl, q _ _ (.same (.int _))⟩
    · cases e
  · cases e
theorem cD_lenS : CallD Z X (.builtin "len") lenSD := by
  intro pins s σ H xs us Q I r h
  obtain ⟨O, ds, z, hO, sh, e, q⟩ := h
  unfold lenSD at e
  split at e
  · split at e
    · rename_i hl
      cases e
      cases sh with
      | cons sx sr =>
        cases sr
        have hx := sx.str
        subst hx
        exact call_len_str pins s σ H _ us Q I r ⟨_, rfl, line6 hl, q _ _ (.same (.int _))⟩
    · cases e
  · cases e
/-! ### parts -/
theorem sl_ofS {bl bh : Bool} {lo hi : Option Expr} {f g h : EF Z.T} (hl : PD X C bl lo g) (hh : PD X C bh hi h) : ∃ tl th, PO X lo tl ∧ PO X hi th ∧ ∀ σ H Q, tF C (slTF bl bh f g h) σ H Q → tSl rSlS (tF C f) tl th σ H Q := by
  obtain ⟨tl, pl, kl⟩ := hl.ex
  obtain ⟨th, ph, kh⟩ := hh.ex
  refine ⟨tl, th, pl, ph, fun σ H Q q => ?_⟩
  obtain ⟨ow, τ, t, R, h0, q⟩ := q.at_
  refine tF_mono (q.bind R h0) fun x H1 ⟨ow1, τ1, t1, ra, R1, r1, h1, _⟩ => ?_
  obtain ⟨ow1', R1', z1, r1', x1⟩ := r1.hold R1
  refine kl σ H1 _ (tF_mono (Kn.part (h1.from x1) R1' z1) fun y H2 ⟨i, hi, ow2, τ2, t2, R2, z2, h2, x2⟩ => ⟨i, hi, ?_⟩)
  refine kh σ H2 _ (tF_mono (Kn.part h2 R2 z2) fun y H3 ⟨j, hj, ow3, τ3, t3, R3, z3, h3, x3⟩ => ⟨j, hj, ?_⟩)
  obtain ⟨z, e, k⟩ := h3.done R3 z3
  cases pa : peek τ3 (hold ra) with
  | none => simp only [pa] at e; cases e
  | some dx =>
    simp only [pa] at e
    have sx := r1'.later R3 (x2.trans x3) pa
    unfold sliceSD at e
    split at e
    · split at e
      · rename_i hz
        cases e
        have hx := sx.str
        subst hx
        exact ⟨_, rfl, line6 hz, k _ _ (.same (.str _))⟩
      · cases e
    · cases e
theorem ev_sliceS {bl bh : Bool} {a : Expr} {lo hi : Option Expr} {p2 pos : Pos} {f g h : EF Z.T} (he : PE X a (tF C f)) (hl : PD X C bl lo g) (hh : PD X C bh hi h) : PE X (.Subscript a (.Slice lo hi none p2) pos) (tF C (slTF bl bh f g h)) := by
  obtain ⟨tl, th, pl, ph, k⟩ := sl_ofS (f := f) hl hh
  exact ⟨fun pins s σ H Q I q => (pe_slice sl_str he pl ph).run pins s σ H Q I (k σ H Q q)⟩
/-! ### the signs walked -/
end
end FD

set_option maxHeartbeats 4000000
/-! F59: a, *rest = a list; a text's partition; f-strings. -/
namespace FD
open PySem PySem.Spec PyProof.Rows L2
/-! ### a walk that has begun -/
section
variable {prog : Program} {w : World} {A : Around} {I : Addr} {fp wr : List Addr} {G : Array GenState → Array GenState → Prop} {n : Nat} {P : Nat → Value → Prop} {St : Nat → Shared → Prop}
theorem walks_tail (W : WalksS prog w A I fp wr G (n + 1) P St) : WalksS prog w A I fp wr G n (fun i => P (i + 1)) (fun i => St (i + 1)) where
  sub := W.sub
  grefl := W.grefl
  gtrans := W.gtrans
  frame := fun i => W.frame (i + 1)
  item := fun i s Q E h => W.item (i + 1) s Q E (by omega)
  done := W.done
  self := fun i => W.self (i + 1)
end
section
variable {prog : Program} {w : World} {A : Around} {E : Value → Shared → Prop} {s : Shared}
theorem star1_items {l : Addr} {x0 : Value} {its : List Value} {Q : List Value → Shared → Prop} (hh : A.handled = none) (hl : s.heap.IsList l (x0 :: its).toArray) (hz : its.length ≤ sizeLine)
    (hQ : ∀ (h' : Heap) (tk : Nat), (∀ b o, s.heap.get? b = some o → h'.get? b = some o) → Q [x0, .ref h'.objs.size] { s with heap := h'.push { cls := .type "list", data := .seq its.toArray }, toks := tk }) :
    wpAny (model prog w) A (unpackItems (.ref l) 2 (some 1)) Q E s := by
  have hlt : l < s.heap.objs.size := by obtain ⟨o, ho, _⟩ := hl; exact Heap.lt_size ho
  unfold unpackItems
  refine wpAny_bind ?_
  unfold notIterableAtAll
  refine wpAny_bind (wpAny_specialOf hl.typeIs PySem.F.slot_list_iter.lookup ?_)
  refine wpAny_pure ?_
  simp only [Bool.false_eq_true, if_false]
  refine wpAny_bind (wpAny_holding (wpAny_pyIter_list hl ?_))
  refine wpAny_bind (wpAny_holding (PySem.W.kun_draw (Nat.ne_of_lt hlt) 1 0 _ _ ⟨_, Heap.get?_push_size _ rfl, rfl, rfl⟩ (hl.push _) (by simp) fun h₁ hit₁ hs₁ => ?_))
  have hall : List.take 1 (List.drop 0 (x0 :: its).toArray.toList) = [x0] := by simp
  rw [hall]
  rw [if_neg (by simp)]
  have hl₁ : h₁.IsList l (x0 :: its).toArray := (hl.push _).extBut hs₁.extBut (Nat.ne_of_lt hlt)
  have kp₁ : ∀ b o, s.heap.get? b = some o → h₁.get? b = some o := fun b o e => hs₁.extBut b o (Nat.ne_of_lt (Heap.lt_size e)) (Heap.get?_push_of_some _ e)
  have W := walks_tail (n := its.length) (by
    have := (Walks.list (prog := prog) (w := w) (A := A.in1) hh s.heap.objs.size l (Nat.ne_of_lt hlt) (x0 :: its).toArray).toS
    rw [show (x0 :: its).toArray.size = its.length + 1 by simp] at this
    exact this)
  refine wpAny_bind (wpAny_holding (wpAny_collect_iter (T := "list_iterator") (.inr (.inr (.inl rfl))) W (fun i s h => h.1.typeIs) ⟨hit₁, hl₁⟩ (fun b hb => ?_) (by simp) (fun s' acc m ia => ?_) hz))
  · rcases List.mem_cons.mp hb with rfl | hb
    · obtain ⟨o, ho, _⟩ := hit₁
      exact Heap.lt_size ho
    · rcases List.mem_cons.mp hb with rfl | hb
      · obtain ⟨o, ho, _⟩ := hl₁
        exact Heap.lt_size ho
      · cases hb
  · have ea : acc.toList = its := by
      refine List.ext_getElem? fun i => ?_
      rw [Array.getElem?_toList]
      cases q : acc[i]? with
      | none =>
        have : its.length ≤ i := by
          rw [Array.getElem?_eq_none_iff, ia.1] at q
          exact q
        rw [List.getElem?_eq_none this]
      | some v =>
        have : (x0 :: its).toArray[i + 1]? = some v := ia.2 i v q
        rw [List.getElem?_toArray, List.getElem?_cons_succ] at this
        exact this.symm
    rw [ea]
    rw [if_neg (by omega)]
    have t1 : List.take (its.length - (2 - 1 - 1)) its = its := by simp
    have t2 : List.drop (its.length - (2 - 1 - 1)) its = [] := by simp
    rw [t1, t2]
    obtain ⟨hp, g, d, tk, os⟩ := s'
    obtain ⟨m1, m2, m3, m4, m5⟩ := m
    refine wpAny_bind (wpAny_newList (wpAny_pure ?_) hz)
    have kp₂ : ∀ b o, s.heap.get? b = some o → hp.get? b = some o := fun b o e => m1 b o (by
      simp only [List.mem_singleton]
      exact Nat.ne_of_lt (Heap.lt_size e)) (kp₁ b o e)
    have := hQ hp tk kp₂
    simp only at m2 m3 m4
    rw [m2, m3, m4]
    exact this
end
/-! ### a, *rest = a list -/
section
variable {X : Cx} {pos : Pos}
def gStar (K : PySem.W.Frag) (t : TGs) : TG := fun v σ H Q => ∃ a x0 xs, v = .ref a ∧ SqL K H a (x0 :: xs) ∧ ∀ p, H p = none → t [x0, .ref p] σ (upd H p (.lst xs)) Q
theorem pg_star1 {e1 e2 : Expr} {p2 : Pos} {k : Nat} {t : TGs} (hc : X.calm = true) (h : PGs X [e1, e2] t) (hs : assignEach [e1, .Starred e2 p2] X.env = [(false, assign e1 X.env), (true, assign e2 X.env)] := by rfl)
    (h2 : (assignEach [e1, e2] X.env).map (·.2) = [assign e1 X.env, assign e2 X.env] := by rfl) : PG X (.Tuple [e1, .Starred e2 p2] k pos) (gStar X.K t) := by
  refine ⟨fun pins s σ H v u Q I r hw => ?_⟩
  obtain ⟨a, x0, xs, e1, hq, hw⟩ := hw
  subst e1
  cases r
  obtain ⟨its, rv, pl, hz⟩ := I.list hq
  cases rv with
  | @cons _ u0 _ us r0 rs =>
    rw [PyProof.Rows.assign_Tuple]
    refine wpAny_bind (wpAny_standAt ?_)
    unfold unpack
    rw [hs]
    refine wpAny_bind (wpAny_holding (star1_items (x0 := u0) (its := us) (I.ok.hd hc) pl.isList (by have := rs.length; rw [List.length_cons] at hz; omega) fun h' tk kp => ?_))
    have I1 : Inv X pins σ H { s with heap := h', toks := tk } := I.kept (t' := tk) kp
    have I2 := I1.laid (a := h'.objs.size) (o := .lst xs) (h' := h'.push { cls := .type "list", data := .seq us.toArray }) (t' := tk) (fun b u q => Heap.get?_push_of_some _ q) (Nat.le_refl _) ⟨by rw [List.length_cons] at hz; omega, us, _, rs, Heap.get?_push_size _ rfl⟩
    have := h.run pins _ σ _ [x0, .ref h'.objs.size] [u0, .ref h'.objs.size] Q I2 (.cons r0 (.cons rfl .nil)) (hw _ (I1.hok.fresh (Nat.le_refl _)))
    rw [h2] at this
    exact this
end
def starF {T : Type} (i j : Nat) (f : EF T) : SF T := sbind f fun r s => match give s.1 r with
  | some (.lst (d0 :: ds), τ) => some (.nx, ((τ.set i (.v d0)).set j (.o (.lst ds)), s.2))
  | _ => none
section
variable {Z : Wd} {C : Fx Z} {X : Cx}
theorem sv_star {i j : Nat} {x y : Str} {e : Expr} {f : EF Z.T} {px py ps pt pos : Pos} {k : Nat} (hc : X.calm = true) (hN : X.N.Nodup) (hi : X.N[i]? = some x) (hj : X.N[j]? = some y)
    (hx : Loc X.env.scope x) (hy : Loc X.env.scope y) (he : PE X e (tF C f)) (hfx : X.fn x = true ∨ X.env.scope.names.lookup x = some .local := by first | exact .inl rfl | exact .inr rfl) (hfy : X.fn y = true ∨ X.env.scope.names.lookup y = some .local := by first | exact .inl rfl | exact .inr rfl)
    (hs : swapsWithSole [.Tuple [.Name x px, .Starred (.Name y py) ps] k pt] e pos.line X.env = pure false := by rfl) (hw : swappedStores [.Tuple [.Name x px, .Starred (.Name y py) ps] k pt] e X.env = pure none := by rfl) :
    PS X (.Assign [.Tuple [.Name x px, .Starred (.Name y py) ps] k pt] e pos) (tS C (starF i j f)) :=
  ⟨fun pins s σ H E I h => (ps_asg he (pg_star1 hc (pgs_cons (pg_name hN hi hx hfx) (pgs_cons (pg_name hN hj hy hfy) pgs_nil))) hs hw).run pins s σ H E I (by
    obtain ⟨ow, τ, t, R, z, kn⟩ := h
    refine tF_mono (kn.bind R z) fun v H1 ⟨ow1, τ1, t1, r, R1, r1, k1, x1⟩ => ?_
    obtain ⟨o1, s1, e1, k1⟩ := k1
    simp only at e1
    split at e1
    · rename_i d0 ds τ2 p1
      cases e1
      obtain ⟨ow2, R2, z2, d2, x2⟩ := r1.give R1 p1
      obtain ⟨a, xs, rfl, h1, c⟩ := (Shows.den d2).lst
      cases c with
      | @cons x0 xs _ _ c0 cs =>
        refine ⟨a, x0, xs, rfl, SqL.of h1, fun p hp => ⟨x0, _, rfl, .ref p, _, rfl, rfl, ?_⟩⟩
        have R3 := R2.set (i := i) c0
        have R4 := R3.pend (o := .lst xs) (drop_zero z2) hp (fun _ q => nomatch q)
        have R5 := R4.setOwn (i := j) (d := .lst ds) put_same upd_same (.lst ((cs.ext ext_drop).ext (ext_put hp)))
        refine k1 _ _ _ R5 ?_ (((x2.trans ext_drop).trans (ext_put hp)).trans ext_move)
        unfold move
        rw [if_neg (by omega), if_pos rfl]
    · cases e1)⟩
end
/-! ### a text's partition -/
def txPartD : D → D → Option (D × Bool)
  | .str a, .str b => if (b.length == 0) = false ∧ a.length ≤ 1000000 then some (.tup [.str (Txt.partition a b).1, .str (Txt.partition a b).2.1, .str (Txt.partition a b).2.2], false) else none
  | _, _ => none
section
variable {Z : Wd} {C : Fx Z} {X : Cx}
theorem ev_partition {o e : Expr} {apos pos : Pos} {fo fe : EF Z.T} (ho : PE X o (tF C fo)) (he : PE X e (tF C fe)) (hs : starEach [e] X.env = [(false, eval e X.env)] := by rfl) (hbase : attributeBase o "partition" X.env (eval o X.env) = eval o X.env := by rfl)
    (hline : (apos.endLine == pos.line) = true := by rfl) : PE X (.Call (.Attribute o "partition" apos) [e] [] pos) (tF C (mth1F txPartD fo fe)) :=
  ⟨fun pins s σ H Q I h => (pe_partition ho he hs hbase hline).run pins s σ H Q I (mth1_of (fun x y H Q ⟨O, dx, dy, z, hO, sx, sy, e, q⟩ => by
    unfold txPartD at e
    split at e
    · split at e
      · rename_i hc
        cases e
        have hx := sx.str
        have hy := sy.str
        subst hx hy
        exact ⟨_, _, rfl, rfl, hc.1, line6 hc.2, fun p hp => q _ _ (.tup hO hp (.cons (.str _) (.cons (.str _) (.cons (.str _) .nil))))⟩
      · cases e
    · cases e) h)⟩
/-! ### f-strings -/
def fmtD : D → Option (D × Bool)
  | .str y => if y.length ≤ 1000000 then some (.str y, false) else none
  | .int i => if i.natAbs < 2 ^ 1000 then some (.str (toString i), false) else none
  | _ => none
theorem ev_fmt {e : Expr} {pos : Pos} {f : EF Z.T} (he : PE X e (tF C f)) : PE X (.FormattedValue e (-1) none pos) (tF C (unF fmtD f)) :=
  ⟨fun pins s σ H Q I h => (pe_fmt he).run pins s σ H Q I (tF_mono (tUn_of h) fun x H1 ⟨O, dx, z, hO, sx, e, q⟩ => by
    unfold fmtD at e
    split at e
    · split at e
      · rename_i hc
        cases e
        have hx := sx.str
        exact .inl ⟨_, hx, line6 hc, q _ _ (.same (.str _))⟩
      · cases e
    · split at e
      · rename_i hc
        cases e
        have hx := sx.int
        exact .inr ⟨_, hx, Nat.lt_of_lt_of_le (PySem.Flt.log2_lt_of (by decide) hc) (by decide), q _ _ (.same (.str _))⟩
      · cases e
    · cases e)⟩
end
def jsK {T : Type} (k : Str → EF T) (acc : Str) (ra : Res) : EF T := fun s => match peek s.1 (hold ra) with
  | some (.str y) => if (acc ++ y).length ≤ 1000000 then k (acc ++ y) s else none
  | _ => none
def jsF {T : Type} : List (EF T) → Str → EF T
  | [], acc => doneF fun _ => some (.str acc, false)
  | f :: fs, acc => bindF f (jsK (jsF fs) acc)
section
variable {Z : Wd} {C : Fx Z} {X : Cx}
theorem js_of {σ : L2.St} : ∀ (fs : List (EF Z.T)) (acc : Str) {H : Hp} {Q : VK}, tF C (jsF fs acc) σ H Q → tJs (fs.map (tF C)) acc σ H fun out H1 => Q (.str out) H1
  | [], acc, H, Q, h => by
    obtain ⟨ow, τ, t, R, h0, kn⟩ := h.at_
    obtain ⟨z, e, k⟩ := Kn.done kn R h0
    cases e
    exact k _ _ (.same (.str _))
  | f :: fs, acc, H, Q, h => by
    obtain ⟨ow, τ, t, R, h0, kn⟩ := h.at_
    refine tF_mono (Kn.bind kn R h0) fun x H1 ⟨ow1, τ1, t1, ra, R1, r1, h1, _⟩ => ?_
    obtain ⟨ow2, R2, z2, r2, x2⟩ := r1.hold R1
    obtain ⟨o, s', e, fin⟩ := h1.from x2
    unfold jsK at e
    split at e
    · rename_i y pa
      split at e
      · rename_i hc
        have hx := (r2.peek R2 pa).str
        exact ⟨y, hx, line6 hc, js_of fs (acc ++ y) (Kn.tF ⟨o, s', e, fin⟩ R2 z2)⟩
      · cases e
    · cases e
theorem pj_cons {e : Expr} {es : List Expr} {f : EF Z.T} {fs : List (EF Z.T)} (h : PE X e (tF C f)) (r : PJ X es (fs.map (tF C))) : PJ X (e :: es) ((f :: fs).map (tF C)) := .cons h r
theorem pj_nil : PJ X [] (([] : List (EF Z.T)).map (tF C)) := .nil
theorem ev_js {v1 v2 : Expr} {rest : List Expr} {fs : List (EF Z.T)} {pos : Pos} (h : PJ X (v1 :: v2 :: rest) (fs.map (tF C))) : PE X (.JoinedStr (v1 :: v2 :: rest) pos) (tF C (jsF fs Str.empty)) :=
  ⟨fun pins s σ H Q I q => (pe_joined h).run pins s σ H Q I (js_of fs Str.empty q)⟩
/-! ### run by simp -/
variable {T : Type}
def starG (i j : Nat) (t : T) : Option (D × List Sl) → Option (SOut × Sg T)
  | some (.lst (d0 :: ds), τ) => some (.nx, ((τ.set i (.v d0)).set j (.o (.lst ds)), t))
  | _ => none
def starK (i j : Nat) (r : Res) : SF T := fun s => starG i j s.2 (give s.1 r)
theorem q_star {i j : Nat} {f : EF T} {s : Sg T} : starF i j f s = sbnd (starK i j) (f s) := by
  unfold starF sbnd starK starG sbind
  rcases f s with _ | ⟨_ | _, _⟩ <;> rfl
theorem q_starK {i j : Nat} {r : Res} {s : Sg T} : starK i j r s = starG i j s.2 (give s.1 r) := (rfl)
theorem q_starG {i j : Nat} {t : T} {d0 : D} {ds : List D} {τ : List Sl} : starG i j t (some (.lst (d0 :: ds), τ)) = some (.nx, ((τ.set i (.v d0)).set j (.o (.lst ds)), t)) := (rfl)
def jsG (k : Str → EF T) (acc : Str) (s : Sg T) : Option D → Option (Out × Sg T)
  | some (.str y) => if (acc ++ y).length ≤ 1000000 then k (acc ++ y) s else none
  | _ => none
theorem q_jsN {acc : Str} {s : Sg T} : jsF [] acc s = some (.ok (.d (.str acc)), s) := (rfl)
theorem q_jsC {f : EF T} {fs : List (EF T)} {acc : Str} {s : Sg T} : jsF (f :: fs) acc s = bnd (jsK (jsF fs) acc) (f s) := (rfl)
theorem q_jsK {k : Str → EF T} {acc : Str} {ra : Res} {s : Sg T} : jsK k acc ra s = jsG k acc s (peek s.1 (hold ra)) := by
  unfold jsK jsG
  rcases peek s.1 (hold ra) with _ | d
  · rfl
  · cases d <;> rfl
theorem q_jsG {k : Str → EF T} {acc y : Str} {s : Sg T} (h : (acc ++ y).length ≤ 1000000) : jsG k acc s (some (.str y)) = k (acc ++ y) s := if_pos h
end
/-! ### x.pop() of an own list -/
def popLD : List D → List D → Option (List D × D)
  | xs, [] => match xs[xs.length - 1]? with
    | some d => some (xs.dropLast, d)
    | none => none
  | _, _ => none
theorem DenA.init {Z : Wd} {O : Addr → Prop} {H : Hp} : ∀ {vs : List V} {ds : List D}, DenA Z O H vs ds → DenA Z O H vs.dropLast ds.dropLast
  | _, _, .nil => .nil
  | _, _, .cons _ .nil => .nil
  | _, _, .cons r (.cons r2 t) => .cons r (DenA.init (.cons r2 t))
section
variable {Z : Wd} {C : Fx Z} {X : Cx}
theorem ev_pop0 {i : Nat} {o : Expr} {apos cpos : Pos} (ho : PE X o (tVar i)) (hbase : attributeBase o "pop" X.env (eval o X.env) = eval o X.env := by rfl) (hline : (apos.endLine == cpos.line) = true := by rfl) :
    PE X (.Call (.Attribute o "pop" apos) [] [] cpos) (tF C (mutF i popLD nilA)) :=
  ⟨fun pins s σ H Q I h => (pe_bm0 PySem.F.plainAttrs_list PySem.F.slot_list_pop PySem.F.type_list_pop mt_pop ho hbase hline).run pins s σ H Q I (by
    obtain ⟨ow, τ, t, o, s', R, z, e, k⟩ := h
    unfold mutF at e
    split at e
    · rename_i xs0 p0
      obtain ⟨a, ys0, e1, e2, e3, c0⟩ := R.ownLst p0
      refine ⟨.ref a, e2, .inl ⟨rfl, _, SqL.of e3⟩, ?_⟩
      simp only [nilA, giveAll] at e
      rw [p0] at e
      simp only [popLD] at e
      split at e
      · cases e
      · rename_i ys rd p3
        cases e
        split at p3
        · rename_i d p4
          cases p3
          obtain ⟨w, g1, g2⟩ := c0.get2 p4
          refine ⟨a, ys0, w, rfl, rfl, e3, by rw [c0.len]; exact g1, ?_⟩
          have u : Ext (C.Hid ow) H (C.Hid ow) (upd H a (.lst ys0.dropLast)) := ext_upd (.inr ⟨_, e1⟩)
          exact k ow w _ (R.mutS e1 p0 (fun _ q => nomatch q) (.lst c0.init)) ⟨z, g2.ext u⟩ u
        · cases p3
    · cases e)⟩
end
/-! ### starred displays of any expression -/
section
variable {T : Type}
def stP (g : AF T) (s : Sg T) : Option D → Option (OutA × Sg T)
  | some (.lst ds) => stG ds (g s)
  | some (.tup ds) => stG ds (g s)
  | _ => none
def stE (g : AF T) (Q : OutA → Sg T → Prop) : Out → Sg T → Prop
  | .ok r, s => wA (stP g s (peek s.1 (hold r))) Q
  | .ex c fs, s => Q (.ex c fs) s
def stR (g : AF T) : Option (Out × Sg T) → Option (OutA × Sg T)
  | none => none
  | some (.ex c fs, s1) => some (.ex c fs, s1)
  | some (.ok r, s1) => stP g s1 (peek s1.1 (hold r))
theorem q_starA {f : EF T} {g : AF T} {s : Sg T} : starA f g s = stR g (f s) := by
  unfold starA stR stP
  rcases f s with _ | ⟨_ | r, s1⟩
  · rfl
  · rename_i r
    simp only
    rcases peek s1.1 (hold r) with _ | d
    · rfl
    · cases d <;> simp only [starD, stG] <;> (rcases g s1 with _ | ⟨_ | _, _⟩ <;> rfl)
  · rfl
theorem w_stR {g : AF T} {x : Option (Out × Sg T)} {Q : OutA → Sg T → Prop} : wA (stR g x) Q = wE x (stE g Q) := by
  rcases x with _ | ⟨o, s⟩
  · exact propext ⟨fun ⟨_, _, e, _⟩ => (nomatch e), fun ⟨_, _, e, _⟩ => (nomatch e)⟩
  · rw [w_E]
    cases o with
    | ok r => rfl
    | ex c fs => exact w_A
theorem w_stE {g : AF T} {Q : OutA → Sg T → Prop} {r : Res} {s : Sg T} : stE g Q (.ok r) s = wA (stP g s (peek s.1 (hold r))) Q := (rfl)
theorem w_stE_ex {g : AF T} {Q : OutA → Sg T → Prop} {c : Str} {fs : List (Str × D)} {s : Sg T} : stE g Q (.ex c fs) s = Q (.ex c fs) s := (rfl)
theorem q_stP_l {g : AF T} {s : Sg T} {ds : List D} : stP g s (some (.lst ds)) = stG ds (g s) := (rfl)
theorem q_stP_t {g : AF T} {s : Sg T} {ds : List D} : stP g s (some (.tup ds)) = stG ds (g s) := (rfl)
def fzP := And.intro (@q_starA) <| And.intro (@w_stR) <| And.intro (@w_stE) <| And.intro (@w_stE_ex) <| And.intro (@q_stP_l) <| And.intro (@q_stP_t) <| And.intro (@w_stG) <| And.intro (@w_stQ) (@w_stQ_ex)
end
/-! ### three names at once, run by simp -/
section
variable {T : Type}
def p3sN (i j : Nat) (d d2 : D) (t : T) : Option (List Sl) → Option (SOut × Sg T)
  | some τ3 => some (.nx, ((τ3.set j (.v d2)).set i (.v d), t))
  | none => none
def p3sE (i j k : Nat) (d d2 : D) (r : Res) : SF T := fun s => p3sN i j d d2 s.2 (storeAt k s.1 r)
def p3sD (i j k : Nat) (h : EF T) (d : D) (t : T) : Option (D × List Sl) → Option (SOut × Sg T)
  | some (d2, τ2) => sbnd (p3sE i j k d d2) (h (τ2, t))
  | none => none
def p3sC (i j k : Nat) (h : EF T) (d : D) (r : Res) : SF T := fun s => p3sD i j k h d s.2 (give s.1 r)
def p3sB (i j k : Nat) (g h : EF T) (t : T) : Option (D × List Sl) → Option (SOut × Sg T)
  | some (d, τ) => sbnd (p3sC i j k h d) (g (τ, t))
  | none => none
def p3sA (i j k : Nat) (g h : EF T) (r : Res) : SF T := fun s => p3sB i j k g h s.2 (give s.1 r)
theorem q_par3 {i j k : Nat} {f g h : EF T} {s : Sg T} : par3F i j k f g h s = sbnd (p3sA i j k g h) (f s) := by
  have e3 : ∀ (d d2 : D) (s : Sg T) (r : Res), (match storeAt k s.1 r with
      | none => none
      | some τ3 => some (SOut.nx, ((τ3.set j (.v d2)).set i (.v d), s.2))) = p3sE i j k d d2 r s := fun d d2 s r => by
    unfold p3sE p3sN
    cases storeAt k s.1 r <;> rfl
  unfold par3F sbnd p3sA p3sB sbind
  rcases f s with _ | ⟨_ | r, s1⟩
  · rfl
  · simp only
    cases give s1.1 ‹Res› with
    | none => rfl
    | some z =>
      obtain ⟨d, τ⟩ := z
      simp only [sbnd]
      rcases g (τ, s1.2) with _ | ⟨_ | r2, s2⟩
      · rfl
      · simp only [p3sC, p3sD]
        cases give s2.1 ‹Res› with
        | none => rfl
        | some z =>
          obtain ⟨d2, τ2⟩ := z
          simp only [sbnd]
          rcases h (τ2, s2.2) with _ | ⟨_ | r3, s3⟩
          · rfl
          · exact e3 d d2 s3 _
          · rfl
      · rfl
  · rfl
theorem q_p3sA {i j k : Nat} {g h : EF T} {r : Res} {s : Sg T} : p3sA i j k g h r s = p3sB i j k g h s.2 (give s.1 r) := (rfl)
theorem q_p3sB {i j k : Nat} {g h : EF T} {t : T} {d : D} {τ : List Sl} : p3sB i j k g h t (some (d, τ)) = sbnd (p3sC i j k h d) (g (τ, t)) := (rfl)
theorem q_p3sC {i j k : Nat} {h : EF T} {d : D} {r : Res} {s : Sg T} : p3sC i j k h d r s = p3sD i j k h d s.2 (give s.1 r) := (rfl)
theorem q_p3sD {i j k : Nat} {h : EF T} {t : T} {d d2 : D} {τ : List Sl} : p3sD i j k h d t (some (d2, τ)) = sbnd (p3sE i j k d d2) (h (τ, t)) := (rfl)
theorem q_p3sE {i j k : Nat} {d d2 : D} {r : Res} {s : Sg T} : p3sE i j k d d2 r s = p3sN i j d d2 s.2 (storeAt k s.1 r) := (rfl)
theorem q_p3sN {i j : Nat} {d d2 : D} {t : T} {τ : List Sl} : p3sN i j d d2 t (some τ) = some (.nx, ((τ.set j (.v d2)).set i (.v d), t)) := (rfl)
def fz3 := And.intro (@q_par3) <| And.intro (@q_p3sA) <| And.intro (@q_p3sB) <| And.intro (@q_p3sC) <| And.intro (@q_p3sD) <| And.intro (@q_p3sE) (@q_p3sN)
end
end FD

/-! L1: ordinary data: what repr can be asked of, what is the same as itself. -/
namespace FD
open PySem PySem.Spec PyProof.Rows L2
mutual
def ord (B : Nat) : Nat → D → Bool
  | _, .non => true
  | _, .bl _ => true
  | _, .int i => decide (i.natAbs ≤ B)
  | _, .str x => x.cps.toList.all fun c => decide (c < 16 ^ 8)
  | _ + 1, .dct kvs => kvs.isEmpty
  | k + 1, .tup ds => ordA B k ds
  | k + 1, .lst ds => ordA B k ds
  | _, _ => false
def ordA (B : Nat) : Nat → List D → Bool
  | _, [] => true
  | k, d :: ds => ord B k d && ordA B k ds
end
mutual
def blk : D → Nat
  | .str x => x.cps.size
  | .tup ds => blkA ds
  | .lst ds => blkA ds
  | _ => 0
def blkA : List D → Nat
  | [] => 0
  | d :: ds => blk d + 1 + blkA ds
end
mutual
def noDct : D → Bool
  | .dct _ => false
  | .tup ds => noDctA ds
  | .lst ds => noDctA ds
  | _ => true
def noDctA : List D → Bool
  | [] => true
  | d :: ds => noDct d && noDctA ds
end
theorem ordA_iff {B k : Nat} : ∀ {ds : List D}, ordA B k ds = true ↔ ∀ d ∈ ds, ord B k d = true
  | [] => by simp [ordA]
  | d :: ds => by simp [ordA, ordA_iff (ds := ds)]
theorem noDctA_iff : ∀ {ds : List D}, noDctA ds = true ↔ ∀ d ∈ ds, noDct d = true
  | [] => by simp [noDctA]
  | d :: ds => by simp [noDctA, noDctA_iff (ds := ds)]
theorem blkA_mem : ∀ {a : List D} {d : D}, d ∈ a → blk d < blkA a
  | _ :: _, _, .head _ => by simp only [blkA]; omega
  | _ :: ds, _, .tail _ h => by
    have := blkA_mem h
    simp only [blkA]
    omega
theorem blkA_len : ∀ {a : List D}, a.length ≤ blkA a
  | [] => Nat.le_refl 0
  | d :: ds => by
    have := blkA_len (a := ds)
    simp only [blkA, List.length_cons]
    omega
theorem blkA_le {n : Nat} : ∀ {a : List D}, (∀ d ∈ a, blk d ≤ n) → blkA a ≤ (n + 1) * a.length
  | [], _ => by simp [blkA]
  | d :: ds, h => by
    have h1 := h d (List.mem_cons_self ..)
    have h2 := blkA_le (a := ds) fun x m => h x (List.mem_cons_of_mem _ m)
    simp only [blkA, List.length_cons, Nat.mul_add, Nat.mul_one]
    omega
/-! ### repr -/
mutual
theorem ord_tame {B : Nat} (hB : B < 10 ^ 60) : ∀ {k : Nat} {d : D}, ord B k d = true → ∃ p, pq d = some p ∧ p.showable = true ∧ p.depth ≤ k ∧ p.leavesShort 70 = true ∧ p.bulk = blk d
  | k, .non, _ => ⟨.none, by simp [pq], by simp [PyData.showable], by simp [PyData.depth], by simp [PyData.leavesShort], by simp [PyData.bulk, blk]⟩
  | k, .bl b, _ => ⟨.bool b, by simp [pq], by simp [PyData.showable], by simp [PyData.depth], by simp [PyData.leavesShort], by simp [PyData.bulk, blk]⟩
  | k, .int i, h => by
    unfold ord at h
    have h1 := of_decide_eq_true h
    have t := tame_int (i := i) (by omega)
    exact ⟨.int i, by simp [pq], t.sh, by have := t.dp; omega, t.lv, by simp [PyData.bulk, blk]⟩
  | k, .str x, h => by
    unfold ord at h
    exact ⟨.str x, by simp [pq], by simp [PyData.showable], by simp [PyData.depth], by simpa only [PyData.leavesShort] using h, by simp [PyData.bulk, blk]⟩
  | 0, .dct [], h => by simp [ord] at h
  | k + 1, .dct [], h => ⟨.dict [], by simp [pq], by simp [PyData.showable, PyData.showableKv], by simp [PyData.depth, PyData.depthKv], by simp [PyData.leavesShort, PyData.leavesShortKv], by simp [PyData.bulk, PyData.bulkKv, blk]⟩
  | 0, .dct (_ :: _), h => by simp [ord] at h
  | k + 1, .dct (_ :: _), h => by simp [ord] at h
  | 0, .tup ds, h => by simp [ord] at h
  | 0, .lst ds, h => by simp [ord] at h
  | k + 1, .tup ds, h => by
    unfold ord at h
    obtain ⟨p, e, h1, h2, h3, h4⟩ := ordA_tame hB h
    exact ⟨.tuple p, by simp [pq, e], by simpa only [PyData.showable] using h1, by simp only [PyData.depth]; omega, by simpa only [PyData.leavesShort] using h3, by simpa only [PyData.bulk, blk] using h4⟩
  | k + 1, .lst ds, h => by
    unfold ord at h
    obtain ⟨p, e, h1, h2, h3, h4⟩ := ordA_tame hB h
    exact ⟨.list p, by simp [pq, e], by simpa only [PyData.showable] using h1, by simp only [PyData.depth]; omega, by simpa only [PyData.leavesShort] using h3, by simpa only [PyData.bulk, blk] using h4⟩
  | k, .obj c fs, h => by simp [ord] at h
  | k, .ty c, h => by simp [ord] at h
  | k, .hnd c, h => by simp [ord] at h
  | k, .fn c, h => by simp [ord] at h
theorem ordA_tame {B : Nat} (hB : B < 10 ^ 60) : ∀ {k : Nat} {d : List D}, ordA B k d = true → ∃ p, pqs d = some p ∧ PyData.showableAll p = true ∧ PyData.depthAll p ≤ k ∧ PyData.leavesShortAll 70 p = true ∧ PyData.bulkAll p = blkA d
  | k, [], _ => ⟨[], by simp [pqs], by simp [PyData.showableAll], by simp [PyData.depthAll], by simp [PyData.leavesShortAll], by simp [PyData.bulkAll, blkA]⟩
  | k, d :: ds, h => by
    unfold ordA at h
    rw [Bool.and_eq_true] at h
    obtain ⟨p, e, h1, h2, h3, h4⟩ := ord_tame hB h.1
    obtain ⟨ps, es, k1, k2, k3, k4⟩ := ordA_tame hB h.2
    refine ⟨p :: ps, by simp [pqs, e, es], by simp [PyData.showableAll, h1, k1], by simp only [PyData.depthAll]; omega, by simp [PyData.leavesShortAll, h3, k3], ?_⟩
    simp only [PyData.bulkAll, blkA]
    omega
end
end FD

/-! L2: what all laws draw with: one of some, odd values, bent values, what is the same. -/
namespace FD
open PySem PySem.Spec PyProof.Rows L2
noncomputable def fb_q_same (rec : FF DS) : SF DS := (seqF (ifF (callF isiD (consA (varF 1) (consA (tupF (consA (conF (.ty "tuple")) (consA (conF (.ty "list")) nilA))) nilA))) (seqF (ifF (binF neD (callF isiD (consA (varF 0) (consA (conF (.ty "tuple")) nilA))) (callF isiD (consA (varF 1) (consA (conF (.ty "tuple")) nilA)))) (retF (conF (.bl false))) nxF)
  (seqF (ifF (binF neD (callF isiD (consA (varF 0) (consA (conF (.ty "list")) nilA))) (callF isiD (consA (varF 1) (consA (conF (.ty "list")) nilA)))) (retF (conF (.bl false))) nxF)
  (seqF (ifF (binF neD (callF lenD (consA (varF 0) nilA)) (callF lenD (consA (varF 1) nilA))) (retF (conF (.bl false))) nxF)
  (retF (binF eqD (lcF [0, 1] [2] (callI rng1D (consA (callF lenD (consA (varF 1) nilA)) nilA)) (nameG 2) (notF (ucallF rec (consA (binF ixD (varF 0) (varF 2)) (consA (binF ixD (varF 1) (varF 2)) nilA)))) (varF 2)) (lstF nilA)))))) nxF)
  (seqF (ifF (callF isiD (consA (varF 1) (consA (conF (.ty "dict")) nilA))) (retF (andF (callF isiD (consA (varF 0) (consA (conF (.ty "dict")) nilA))) (binF eqD (varF 0) (varF 1)))) nxF)
  (seqF (ifF (binF isD (varF 1) (conF .non)) (retF (binF isD (varF 0) (conF .non))) nxF)
  (seqF (ifF (callF isiD (consA (varF 1) (consA (conF (.ty "str")) nilA))) (retF (andF (callF isiD (consA (varF 0) (consA (conF (.ty "str")) nilA))) (binF eqD (varF 0) (varF 1)))) nxF)
  (retF (andF (callF isiD (consA (varF 0) (consA (conF (.ty "int")) nilA))) (andF (binF eqD (callF isiD (consA (varF 0) (consA (conF (.ty "bool")) nilA))) (callF isiD (consA (varF 1) (consA (conF (.ty "bool")) nilA)))) (binF eqD (varF 0) (varF 1)))))))))
noncomputable def FFr_q_same : Nat → FF DS
  | 0 => fun _ _ => none
  | k + 1 => runF 3 2 (fb_q_same (FFr_q_same k))
theorem lenr_q_same : ∀ {k : Nat} {ds : List D} {t : DS} {o : FOut × DS}, FFr_q_same k ds t = some o → ds.length = 2
  | 0, _, _, _, h => by cases h
  | _ + 1, _, _, _, h => runF_len h
noncomputable def FF_q_same : FF DS := FFr_q_same 12
theorem len_q_same {ds : List D} {t : DS} {o : FOut × DS} (h : FF_q_same ds t = some o) : ds.length = 2 := lenr_q_same h

theorem v_pow12 : powD (.int 10) (.int 12) = some (.int 1000000000000, false) := by
  unfold powD
  exact if_pos (by decide)
theorem v_pow11 : powD (.int 10) (.int 11) = some (.int 100000000000, false) := by
  unfold powD
  exact if_pos (by decide)
theorem v_cat {a b : List D} (h : a.length + b.length ≤ LEN) : addD (.lst a) (.lst b) = some (.lst (a ++ b), true) := if_pos h
theorem v_neg {i : Int} : negD (.int i) = some (.int (-i), false) := (rfl)
/-! ### the same -/
theorem rngL_nat (n : Nat) : rngL 0 (n : Int) = (List.range n).map fun (k : Nat) => D.int (k : Int) := by
  unfold rngL
  simp
theorem filter_no {A : Type} : ∀ as : List A, as.filter (fun _ => false) = []
  | [] => rfl
  | _ :: as => filter_no as
theorem eq_nil_nil : eqD (.lst []) (.lst []) = some (.bl true, false) := v_eq_nil (a := []) (by simp [okAll])
theorem same_refl : ∀ (k : Nat) {B : Nat} {d : D} {t : DS}, ord B k d = true → noDct d = true → blk d ≤ 100000 → ∀ {j : Nat}, k < j → FFr_q_same j [d, d] t = some (.ok (.bl true) false, t) := by
  intro k
  induction k with
  | zero =>
    intro B d t h1 h2 h3 j hj
    obtain ⟨j, rfl⟩ : ∃ i, j = i + 1 := ⟨j - 1, by omega⟩
    unfold FFr_q_same fb_q_same
    cases d with
    | non => simp only [fdA, List.map_cons, List.map_nil, List.length_cons, List.length_nil, List.cons_append, List.nil_append, List.replicate_succ, List.replicate_zero, Nat.zero_add, Nat.reduceAdd, Nat.reduceSub, Nat.sub_self, if_true, if_false, Bool.false_eq_true, Bool.not_true, Bool.not_false, reduceCtorEq, ite_true, ite_false, List.getElem?_cons_zero, List.getElem?_cons_succ, List.set_cons_zero, List.set_cons_succ, LEN, Nat.reduceLeDiff, Option.map_some, fvA, List.length_map, List.length_set, decide_true, decide_false]
    | bl b => simp only [fdA, List.map_cons, List.map_nil, List.length_cons, List.length_nil, List.cons_append, List.nil_append, List.replicate_succ, List.replicate_zero, Nat.zero_add, Nat.reduceAdd, Nat.reduceSub, Nat.sub_self, if_true, if_false, Bool.false_eq_true, Bool.not_true, Bool.not_false, reduceCtorEq, ite_true, ite_false, List.getElem?_cons_zero, List.getElem?_cons_succ, List.set_cons_zero, List.set_cons_succ, LEN, Nat.reduceLeDiff, Option.map_some, fvA, List.length_map, List.length_set, decide_true, decide_false]
    | int i => simp only [fdA, List.map_cons, List.map_nil, List.length_cons, List.length_nil, List.cons_append, List.nil_append, List.replicate_succ, List.replicate_zero, Nat.zero_add, Nat.reduceAdd, Nat.reduceSub, Nat.sub_self, if_true, if_false, Bool.false_eq_true, Bool.not_true, Bool.not_false, reduceCtorEq, ite_true, ite_false, List.getElem?_cons_zero, List.getElem?_cons_succ, List.set_cons_zero, List.set_cons_succ, LEN, Nat.reduceLeDiff, Option.map_some, fvA, List.length_map, List.length_set, decide_true, decide_false]
    | str x => simp only [fdA, List.map_cons, List.map_nil, List.length_cons, List.length_nil, List.cons_append, List.nil_append, List.replicate_succ, List.replicate_zero, Nat.zero_add, Nat.reduceAdd, Nat.reduceSub, Nat.sub_self, if_true, if_false, Bool.false_eq_true, Bool.not_true, Bool.not_false, reduceCtorEq, ite_true, ite_false, List.getElem?_cons_zero, List.getElem?_cons_succ, List.set_cons_zero, List.set_cons_succ, LEN, Nat.reduceLeDiff, Option.map_some, fvA, List.length_map, List.length_set, decide_true, decide_false]
    | dct kvs => simp [ord] at h1
    | tup ds => simp [ord] at h1
    | lst ds => simp [ord] at h1
    | obj c fs => simp [ord] at h1
    | ty c => simp [ord] at h1
    | hnd c => simp [ord] at h1
    | fn c => simp [ord] at h1
  | succ k ih =>
    intro B d t h1 h2 h3 j hj
    obtain ⟨j, rfl⟩ : ∃ i, j = i + 1 := ⟨j - 1, by omega⟩
    have list : ∀ ds : List D, ordA B k ds = true → noDctA ds = true → blkA ds ≤ 100000 → (∀ i : Nat, i < ds.length → ∃ d, atI ds (i : Int) = some d ∧ FFr_q_same j [d, d] t = some (.ok (.bl true) false, t)) ∧ ds.length ≤ 100000 := fun ds o1 o2 o3 => by
      refine ⟨fun i hi => ⟨ds[i], atI_nat (List.getElem?_eq_getElem hi), ?_⟩, Nat.le_trans blkA_len o3⟩
      have m := List.getElem_mem hi
      have := blkA_mem m
      exact ih (ordA_iff.mp o1 _ m) (noDctA_iff.mp o2 _ m) (by omega) (by omega)
    cases d with
    | non => unfold FFr_q_same fb_q_same; simp only [fdA, List.map_cons, List.map_nil, List.length_cons, List.length_nil, List.cons_append, List.nil_append, List.replicate_succ, List.replicate_zero, Nat.zero_add, Nat.reduceAdd, Nat.reduceSub, Nat.sub_self, if_true, if_false, Bool.false_eq_true, Bool.not_true, Bool.not_false, reduceCtorEq, ite_true, ite_false, List.getElem?_cons_zero, List.getElem?_cons_succ, List.set_cons_zero, List.set_cons_succ, LEN, Nat.reduceLeDiff, Option.map_some, fvA, List.length_map, List.length_set, decide_true, decide_false]
    | bl b => unfold FFr_q_same fb_q_same; simp only [fdA, List.map_cons, List.map_nil, List.length_cons, List.length_nil, List.cons_append, List.nil_append, List.replicate_succ, List.replicate_zero, Nat.zero_add, Nat.reduceAdd, Nat.reduceSub, Nat.sub_self, if_true, if_false, Bool.false_eq_true, Bool.not_true, Bool.not_false, reduceCtorEq, ite_true, ite_false, List.getElem?_cons_zero, List.getElem?_cons_succ, List.set_cons_zero, List.set_cons_succ, LEN, Nat.reduceLeDiff, Option.map_some, fvA, List.length_map, List.length_set, decide_true, decide_false]
    | int i => unfold FFr_q_same fb_q_same; simp only [fdA, List.map_cons, List.map_nil, List.length_cons, List.length_nil, List.cons_append, List.nil_append, List.replicate_succ, List.replicate_zero, Nat.zero_add, Nat.reduceAdd, Nat.reduceSub, Nat.sub_self, if_true, if_false, Bool.false_eq_true, Bool.not_true, Bool.not_false, reduceCtorEq, ite_true, ite_false, List.getElem?_cons_zero, List.getElem?_cons_succ, List.set_cons_zero, List.set_cons_succ, LEN, Nat.reduceLeDiff, Option.map_some, fvA, List.length_map, List.length_set, decide_true, decide_false]
    | str x => unfold FFr_q_same fb_q_same; simp only [fdA, List.map_cons, List.map_nil, List.length_cons, List.length_nil, List.cons_append, List.nil_append, List.replicate_succ, List.replicate_zero, Nat.zero_add, Nat.reduceAdd, Nat.reduceSub, Nat.sub_self, if_true, if_false, Bool.false_eq_true, Bool.not_true, Bool.not_false, reduceCtorEq, ite_true, ite_false, List.getElem?_cons_zero, List.getElem?_cons_succ, List.set_cons_zero, List.set_cons_succ, LEN, Nat.reduceLeDiff, Option.map_some, fvA, List.length_map, List.length_set, decide_true, decide_false]
    | dct kvs => simp [noDct] at h2
    | tup ds =>
      simp only [ord, noDct, blk] at h1 h2 h3
      obtain ⟨l1, l2⟩ := list ds h1 h2 h3
      refine w_eq ?_
      unfold FFr_q_same fb_q_same
      simp only [fdA, List.map_cons, List.map_nil, List.length_cons, List.length_nil, List.cons_append, List.nil_append, List.replicate_succ, List.replicate_zero, Nat.zero_add, Nat.reduceAdd, Nat.reduceSub, Nat.sub_self, if_true, if_false, Bool.false_eq_true, Bool.not_true, Bool.not_false, reduceCtorEq, ite_true, ite_false, List.getElem?_cons_zero, List.getElem?_cons_succ, List.set_cons_zero, List.set_cons_succ, LEN, Nat.reduceLeDiff, Option.map_some, fvA, List.length_map, List.length_set, decide_true, decide_false, fhA, List.mem_cons, List.not_mem_nil, or_false, or_true, Nat.reduceEqDiff, Nat.succ_ne_self, fxA, fwA, fyA, and_true, true_and, imp_self, true_imp_iff, false_imp_iff, implies_true, v_rng1 (j := (ds.length : Int)) (small_of (by omega))]
      refine ⟨by rw [rngL_len]; omega, w_fm (List.range ds.length) (fun (k : Nat) => D.int (k : Int)) (rngL_nat _) (fun _ => false) (fun _ => .non) (fun i hi => ?_) ?_⟩
      · obtain ⟨d, e1, e2⟩ := l1 i (List.mem_range.mp hi)
        simp only [fdA, List.map_cons, List.map_nil, List.length_cons, List.length_nil, List.cons_append, List.nil_append, List.replicate_succ, List.replicate_zero, Nat.zero_add, Nat.reduceAdd, Nat.reduceSub, Nat.sub_self, if_true, if_false, Bool.false_eq_true, Bool.not_true, Bool.not_false, reduceCtorEq, ite_true, ite_false, List.getElem?_cons_zero, List.getElem?_cons_succ, List.set_cons_zero, List.set_cons_succ, LEN, Nat.reduceLeDiff, Option.map_some, fvA, List.length_map, List.length_set, decide_true, decide_false, fhA, List.mem_cons, List.not_mem_nil, or_false, or_true, Nat.reduceEqDiff, Nat.succ_ne_self, fxA, fwA, fyA, and_true, true_and, imp_self, true_imp_iff, false_imp_iff, implies_true, v_ix_t e1, e2]
      · rw [filter_no]
        simp only [List.map_nil]
        simp only [fdA, List.map_cons, List.map_nil, List.length_cons, List.length_nil, List.cons_append, List.nil_append, List.replicate_succ, List.replicate_zero, Nat.zero_add, Nat.reduceAdd, Nat.reduceSub, Nat.sub_self, if_true, if_false, Bool.false_eq_true, Bool.not_true, Bool.not_false, reduceCtorEq, ite_true, ite_false, List.getElem?_cons_zero, List.getElem?_cons_succ, List.set_cons_zero, List.set_cons_succ, LEN, Nat.reduceLeDiff, Option.map_some, fvA, List.length_map, List.length_set, decide_true, decide_false, fhA, List.mem_cons, List.not_mem_nil, or_false, or_true, Nat.reduceEqDiff, Nat.succ_ne_self, fxA, fwA, fyA, and_true, true_and, imp_self, true_imp_iff, false_imp_iff, implies_true, eq_nil_nil]
    | lst ds =>
      simp only [ord, noDct, blk] at h1 h2 h3
      obtain ⟨l1, l2⟩ := list ds h1 h2 h3
      refine w_eq ?_
      unfold FFr_q_same fb_q_same
      simp only [fdA, List.map_cons, List.map_nil, List.length_cons, List.length_nil, List.cons_append, List.nil_append, List.replicate_succ, List.replicate_zero, Nat.zero_add, Nat.reduceAdd, Nat.reduceSub, Nat.sub_self, if_true, if_false, Bool.false_eq_true, Bool.not_true, Bool.not_false, reduceCtorEq, ite_true, ite_false, List.getElem?_cons_zero, List.getElem?_cons_succ, List.set_cons_zero, List.set_cons_succ, LEN, Nat.reduceLeDiff, Option.map_some, fvA, List.length_map, List.length_set, decide_true, decide_false, fhA, List.mem_cons, List.not_mem_nil, or_false, or_true, Nat.reduceEqDiff, Nat.succ_ne_self, fxA, fwA, fyA, and_true, true_and, imp_self, true_imp_iff, false_imp_iff, implies_true, v_rng1 (j := (ds.length : Int)) (small_of (by omega))]
      refine ⟨by rw [rngL_len]; omega, w_fm (List.range ds.length) (fun (k : Nat) => D.int (k : Int)) (rngL_nat _) (fun _ => false) (fun _ => .non) (fun i hi => ?_) ?_⟩
      · obtain ⟨d, e1, e2⟩ := l1 i (List.mem_range.mp hi)
        simp only [fdA, List.map_cons, List.map_nil, List.length_cons, List.length_nil, List.cons_append, List.nil_append, List.replicate_succ, List.replicate_zero, Nat.zero_add, Nat.reduceAdd, Nat.reduceSub, Nat.sub_self, if_true, if_false, Bool.false_eq_true, Bool.not_true, Bool.not_false, reduceCtorEq, ite_true, ite_false, List.getElem?_cons_zero, List.getElem?_cons_succ, List.set_cons_zero, List.set_cons_succ, LEN, Nat.reduceLeDiff, Option.map_some, fvA, List.length_map, List.length_set, decide_true, decide_false, fhA, List.mem_cons, List.not_mem_nil, or_false, or_true, Nat.reduceEqDiff, Nat.succ_ne_self, fxA, fwA, fyA, and_true, true_and, imp_self, true_imp_iff, false_imp_iff, implies_true, v_ix_l e1, e2]
      · rw [filter_no]
        simp only [List.map_nil]
        simp only [fdA, List.map_cons, List.map_nil, List.length_cons, List.length_nil, List.cons_append, List.nil_append, List.replicate_succ, List.replicate_zero, Nat.zero_add, Nat.reduceAdd, Nat.reduceSub, Nat.sub_self, if_true, if_false, Bool.false_eq_true, Bool.not_true, Bool.not_false, reduceCtorEq, ite_true, ite_false, List.getElem?_cons_zero, List.getElem?_cons_succ, List.set_cons_zero, List.set_cons_succ, LEN, Nat.reduceLeDiff, Option.map_some, fvA, List.length_map, List.length_set, decide_true, decide_false, fhA, List.mem_cons, List.not_mem_nil, or_false, or_true, Nat.reduceEqDiff, Nat.succ_ne_self, fxA, fwA, fyA, and_true, true_and, imp_self, true_imp_iff, false_imp_iff, implies_true, eq_nil_nil]
    | obj c fs => simp [ord] at h1
    | ty c => simp [ord] at h1
    | hnd c => simp [ord] at h1
    | fn c => simp [ord] at h1
/-! ### bent -/
theorem cut_from {A : Type} (xs : List A) (i : Nat) : cutL xs (some (i : Int)) none = xs.drop i := by
  unfold cutL sl0 sl1
  rw [HT.sIx_none, HT.sIx_nat]
  rcases Nat.le_total i xs.length with h | h
  · rw [Nat.min_eq_left h]
    exact List.take_of_length_le (by simp)
  · rw [Nat.min_eq_right h, List.drop_of_length_le h, List.drop_of_length_le (Nat.le_refl _)]
    simp
theorem ord_tup {B k : Nat} {ds : List D} (h : ordA B k ds = true) : ord B (k + 1) (.tup ds) = true := by unfold ord; exact h
theorem ord_lst {B k : Nat} {ds : List D} (h : ordA B k ds = true) : ord B (k + 1) (.lst ds) = true := by unfold ord; exact h
theorem ordA_cons {B k : Nat} {d : D} {ds : List D} (h1 : ord B k d = true) (h : ordA B k ds = true) : ordA B k (d :: ds) = true := by unfold ordA; rw [h1, h]; rfl
theorem ordA_nil {B k : Nat} : ordA B k [] = true := by unfold ordA; rfl
end FD

/-! T1: steps of gains: the greatest gain of so many units, prices, units at a price. -/
namespace GC
abbrev Gs := List (Int × Int)
/-- the number of units -/
def cap : Gs → Int
  | [] => 0
  | (c, _) :: r => c + cap r
/-- the gain of the first u units -/
def fst' : Gs → Int → Int
  | [], _ => 0
  | (c, a) :: r, u => min c u * a + fst' r (u - min c u)
/-- what is gained above the price p -/
def conj : Gs → Int → Int
  | [], _ => 0
  | (c, a) :: r, p => (if p < a then c * (a - p) else 0) + conj r p
/-- counts above 0, gains that fall -/
def Falls : Gs → Prop
  | [] => True
  | (c, a) :: r => 0 < c ∧ (∀ x ∈ r, x.2 < a) ∧ Falls r
theorem cap_nonneg : ∀ {g : Gs}, Falls g → 0 ≤ cap g
  | [], _ => Int.le_refl 0
  | (c, a) :: r, ⟨h1, _, h3⟩ => by
    have := cap_nonneg h3
    simp only [cap]
    omega
theorem conj_nonneg : ∀ {g : Gs}, Falls g → ∀ p, 0 ≤ conj g p
  | [], _, _ => Int.le_refl 0
  | (c, a) :: r, ⟨h1, _, h3⟩, p => by
    have := conj_nonneg h3 p
    simp only [conj]
    split
    · have := Int.mul_nonneg (a := c) (b := a - p) (by omega) (by omega)
      omega
    · omega
theorem fst_zero : ∀ (g : Gs), Falls g → fst' g 0 = 0
  | [], _ => rfl
  | (c, a) :: r, ⟨h1, _, h3⟩ => by
    simp only [fst']
    rw [Int.min_eq_right (by omega)]
    simp [fst_zero r h3]
theorem fst_cons_le {c a u : Int} {r : Gs} (h : u ≤ c) (hr : Falls r) (h0 : 0 ≤ u) : fst' ((c, a) :: r) u = u * a := by
  simp only [fst']
  rw [Int.min_eq_right h, Int.sub_self, fst_zero r hr]
  omega
theorem fst_cons_ge {c a u : Int} {r : Gs} (h : c ≤ u) : fst' ((c, a) :: r) u = c * a + fst' r (u - c) := by
  simp only [fst']
  rw [Int.min_eq_left h]
/-- no units gain more than what they pay and what is gained above the price -/
theorem fst_le : ∀ {g : Gs}, Falls g → ∀ (p u : Int), 0 ≤ u → u ≤ cap g → fst' g u ≤ conj g p + p * u
  | [], _, p, u, h0, h1 => by
    have : u = 0 := by simp only [cap] at h1; omega
    subst this
    simp [fst', conj]
  | (c, a) :: r, ⟨h1, h2, h3⟩, p, u, h0, hu => by
    have hc := conj_nonneg h3 p
    by_cases h : u ≤ c
    · rw [fst_cons_le h h3 h0]
      simp only [conj]
      have e : u * a = u * (a - p) + p * u := by rw [Int.mul_sub, Int.mul_comm u p]; omega
      rw [e]
      split
      · rename_i hp
        have := Int.mul_le_mul_of_nonneg_right (a := u) (b := c) (c := a - p) h (by omega)
        omega
      · have := Int.mul_nonneg (a := u) (b := p - a) h0 (by omega)
        have e2 : u * (a - p) = - (u * (p - a)) := by rw [← Int.mul_neg]; congr 1; omega
        omega
    · have hh : c ≤ u := by omega
      rw [fst_cons_ge hh]
      have ih := fst_le h3 p (u - c) (by omega) (by simp only [cap] at hu; omega)
      have e : p * (u - c) = p * u - p * c := Int.mul_sub ..
      have e2 : c * a = c * (a - p) + p * c := by rw [Int.mul_sub, Int.mul_comm c p]; omega
      simp only [conj]
      split
      · omega
      · have := Int.mul_nonneg (a := c) (b := p - a) (by omega) (by omega)
        have e3 : c * (a - p) = - (c * (p - a)) := by rw [← Int.mul_neg]; congr 1; omega
        omega
end GC

/-! T2: steps joined, steps between. -/
namespace GC
theorem conj_app (a b : Gs) (p : Int) : conj (a ++ b) p = conj a p + conj b p := by
  induction a with
  | nil => simp [conj]
  | cons x r ih => obtain ⟨c, g⟩ := x; simp only [List.cons_append, conj, ih]; omega
theorem cap_app (a b : Gs) : cap (a ++ b) = cap a + cap b := by
  induction a with
  | nil => simp [cap]
  | cons x r ih => obtain ⟨c, g⟩ := x; simp only [List.cons_append, cap, ih]; omega
/-- one step more, in falling order -/
def ins (c a : Int) : Gs → Gs
  | [] => [(c, a)]
  | (d, b) :: r => if b < a then (c, a) :: (d, b) :: r else if b = a then (d + c, b) :: r else (d, b) :: ins c a r
def joined : Gs → Gs
  | [] => []
  | (c, a) :: r => ins c a (joined r)
def Pos (g : Gs) : Prop := ∀ x ∈ g, 0 < x.1
theorem Falls.pos : ∀ {g : Gs}, Falls g → Pos g
  | [], _ => fun _ h => by cases h
  | (c, a) :: r, ⟨h1, h2, h3⟩ => fun x h => by
    rcases List.mem_cons.mp h with h | h
    · rw [h]; exact h1
    · exact h3.pos x h
/-- the steps of the units from index f on and before index l; the units of g begin at index b -/
def btwn (f l : Int) : Int → Gs → Gs
  | _, [] => []
  | b, (c, a) :: r => (if 0 < min (b + c) l - max b f then [(min (b + c) l - max b f, a)] else []) ++ btwn f l (b + c) r
/-- the gain of the unit with this index -/
def unit (g : Gs) (i : Int) : Int := match btwn i (i + 1) 0 g with
  | [] => 0
  | (_, a) :: _ => a
end GC

/-! T3: parts: what fits them, their curves. -/
namespace GC
inductive Part where
  | mk (num : Option Int) (ms : List Int) (lo hi : Int) (rs cg ci : List Int) (ins : List Part)
namespace Part
def num : Part → Option Int | mk n _ _ _ _ _ _ _ => n
def ms : Part → List Int | mk _ m _ _ _ _ _ _ => m
def lo : Part → Int | mk _ _ l _ _ _ _ _ => l
def hi : Part → Int | mk _ _ _ h _ _ _ _ => h
def rs : Part → List Int | mk _ _ _ _ r _ _ _ => r
def cg : Part → List Int | mk _ _ _ _ _ c _ _ => c
def ci : Part → List Int | mk _ _ _ _ _ _ c _ => c
def ins : Part → List Part | mk _ _ _ _ _ _ _ i => i
end Part
/-- the sum of units -/
def S (x : Int → Int) (ms : List Int) : Int := (ms.map x).sum
/-- the gain of units -/
def V (it : Int → Gs) (x : Int → Int) (ms : List Int) : Int := (ms.map fun i => fst' (it i) (x i)).sum
theorem S_app (x : Int → Int) (a b : List Int) : S x (a ++ b) = S x a + S x b := by simp [S, List.sum_append]
theorem V_app (it : Int → Gs) (x : Int → Int) (a b : List Int) : V it x (a ++ b) = V it x a + V it x b := by simp [V, List.sum_append]
theorem S_congr {x y : Int → Int} {ms : List Int} (h : ∀ i ∈ ms, x i = y i) : S x ms = S y ms := by
  unfold S
  rw [List.map_congr_left h]
def msOf : List Part → List Int
  | [] => []
  | p :: ps => p.ms ++ msOf ps
def loOf : List Part → Int
  | [] => 0
  | p :: ps => p.lo + loOf ps
def hiOf : List Part → Int
  | [] => 0
  | p :: ps => p.hi + hiOf ps
mutual
def Fit (x : Int → Int) : Part → Prop
  | .mk _ ms lo hi _ _ _ ins => (lo ≤ S x ms ∧ S x ms ≤ hi) ∧ Fits x ins
def Fits (x : Int → Int) : List Part → Prop
  | [] => True
  | p :: ps => Fit x p ∧ Fits x ps
end
mutual
def Good (it : Int → Gs) : Part → Prop
  | .mk _ ms lo hi _ _ _ ins => ms.Nodup ∧ lo ≤ hi ∧ (ins = [] → ∃ i, ms = [i] ∧ lo = 0 ∧ hi = cap (it i) ∧ Falls (it i)) ∧ (ins ≠ [] → ms = msOf ins ∧ loOf ins ≤ lo ∧ hi ≤ hiOf ins) ∧ Goods it ins
def Goods (it : Int → Gs) : List Part → Prop
  | [] => True
  | p :: ps => Good it p ∧ Goods it ps
end
abbrev Curve := Int × Int × Gs
def lowC : List Curve → Int
  | [] => 0
  | c :: r => c.1 + lowC r
def gainC : List Curve → Int
  | [] => 0
  | c :: r => c.2.1 + gainC r
def flatC : List Curve → Gs
  | [] => []
  | c :: r => c.2.2 ++ flatC r
def freeC (cs : List Curve) : Curve := (lowC cs, gainC cs, joined (flatC cs))
def cutC (lo hi : Int) (f : Curve) : Curve := (lo, f.2.1 + fst' f.2.2 (lo - f.1), btwn (lo - f.1) (hi - f.1) 0 f.2.2)
mutual
def curve (it : Int → Gs) : Part → Curve
  | .mk _ ms lo hi _ _ _ ins => if ins.isEmpty then (0, 0, it (ms.headD 0)) else cutC lo hi (freeC (curves it ins))
def curves (it : Int → Gs) : List Part → List Curve
  | [] => []
  | p :: ps => curve it p :: curves it ps
end
theorem Good.nodup {it : Int → Gs} : ∀ {p : Part}, Good it p → p.ms.Nodup
  | .mk _ ms lo hi _ _ _ ins, h => by unfold Good at h; exact h.1
theorem Good.le {it : Int → Gs} : ∀ {p : Part}, Good it p → p.lo ≤ p.hi
  | .mk _ ms lo hi _ _ _ ins, h => by unfold Good at h; exact h.2.1
theorem Fit.sum {x : Int → Int} : ∀ {p : Part}, Fit x p → p.lo ≤ S x p.ms ∧ S x p.ms ≤ p.hi
  | .mk _ ms lo hi _ _ _ ins, h => by unfold Fit at h; exact h.1
/-- to fit is said of the members alone -/
theorem Fits.congr' {it : Int → Gs} {x y : Int → Int} (n : Nat) : (∀ p : Part, sizeOf p < n → Good it p → (∀ i ∈ p.ms, x i = y i) → Fit x p → Fit y p) ∧ (∀ ps : List Part, sizeOf ps < n → Goods it ps → (∀ i ∈ msOf ps, x i = y i) → Fits x ps → Fits y ps) := by
  induction n with
  | zero => exact ⟨fun _ h => by omega, fun _ h => by omega⟩
  | succ n ih =>
    constructor
    · intro p hn g e f
      cases p with
      | mk a ms lo hi b c d ins =>
        unfold Good at g
        unfold Fit at f ⊢
        simp only [Part.ms] at e
        refine ⟨by rw [← S_congr e]; exact f.1, ?_⟩
        cases ins with
        | nil => unfold Fits; trivial
        | cons q qs =>
          obtain ⟨g1, _⟩ := g.2.2.2.1 (by simp)
          exact ih.2 _ (by simp at hn ⊢; omega) g.2.2.2.2 (fun i m => e i (by rw [g1]; exact m)) f.2
    · intro ps hn g e f
      cases ps with
      | nil => unfold Fits; trivial
      | cons p ps =>
        unfold Goods at g
        unfold Fits at f ⊢
        have hp : 0 < sizeOf ps := by cases ps <;> simp <;> omega
        exact ⟨ih.1 p (by simp at hn; omega) g.1 (fun i m => e i (by simp [msOf, m])) f.1, ih.2 ps (by simp at hn; omega) g.2 (fun i m => e i (by simp [msOf, m])) f.2⟩
theorem Fit.congr {it : Int → Gs} {x y : Int → Int} {p : Part} (g : Good it p) (e : ∀ i ∈ p.ms, x i = y i) (f : Fit x p) : Fit y p := (Fits.congr' (sizeOf p + 1)).1 p (by omega) g e f
theorem Fits.congr {it : Int → Gs} {x y : Int → Int} {p : List Part} (g : Goods it p) (e : ∀ i ∈ msOf p, x i = y i) (f : Fits x p) : Fits y p := (Fits.congr' (sizeOf p + 1)).2 p (by omega) g e f
/-- what is known of a curve of a part -/
structure CurveOk (it : Int → Gs) (p : Part) (c : Curve) : Prop where
  low : c.1 = p.lo
  falls : Falls c.2.2
  cap : cap c.2.2 = p.hi - p.lo
  up : ∀ x, Fit x p → V it x p.ms ≤ c.2.1 + fst' c.2.2 (S x p.ms - p.lo)
  at_ : ∀ u, p.lo ≤ u → u ≤ p.hi → ∃ x, Fit x p ∧ S x p.ms = u ∧ V it x p.ms = c.2.1 + fst' c.2.2 (u - p.lo)
inductive CurvesOk (it : Int → Gs) : List Part → List Curve → Prop
  | nil : CurvesOk it [] []
  | cons {p : Part} {ps : List Part} {c : Curve} {cs : List Curve} : CurveOk it p c → CurvesOk it ps cs → CurvesOk it (p :: ps) (c :: cs)
theorem CurvesOk.low {it : Int → Gs} : ∀ {ps : List Part} {cs : List Curve}, CurvesOk it ps cs → lowC cs = loOf ps
  | _, _, .nil => rfl
  | _, _, .cons h r => by simp only [lowC, loOf, h.low, r.low]
theorem CurvesOk.cap {it : Int → Gs} : ∀ {ps : List Part} {cs : List Curve}, CurvesOk it ps cs → GC.cap (flatC cs) = hiOf ps - loOf ps
  | _, _, .nil => rfl
  | _, _, .cons h r => by simp only [flatC, cap_app, hiOf, loOf, h.cap, r.cap]; omega
theorem CurvesOk.pos {it : Int → Gs} : ∀ {ps : List Part} {cs : List Curve}, CurvesOk it ps cs → Pos (flatC cs)
  | _, _, .nil => fun _ h => by cases h
  | _, _, .cons h r => fun x m => by
    simp only [flatC, List.mem_append] at m
    rcases m with m | m
    · exact h.falls.pos x m
    · exact r.pos x m
/-- a price bounds all -/
theorem CurveOk.price {it : Int → Gs} {p : Part} {c : Curve} (h : CurveOk it p c) (q : Int) {x : Int → Int} (f : Fit x p) : V it x p.ms ≤ c.2.1 + conj c.2.2 q + q * (S x p.ms - p.lo) := by
  have h1 := h.up x f
  have h2 := f.sum
  have h3 := fst_le h.falls q (S x p.ms - p.lo) (by omega) (by rw [h.cap]; omega)
  omega
theorem CurvesOk.price {it : Int → Gs} (q : Int) {x : Int → Int} : ∀ {ps : List Part} {cs : List Curve}, CurvesOk it ps cs → Fits x ps → V it x (msOf ps) ≤ gainC cs + conj (flatC cs) q + q * (S x (msOf ps) - loOf ps)
  | _, _, .nil, _ => by simp [V, S, msOf, gainC, flatC, conj, loOf]
  | p :: ps, c :: cs, .cons h r, f => by
    unfold Fits at f
    have h1 := h.price q f.1
    have h2 := CurvesOk.price q r f.2
    simp only [msOf, V_app, S_app, gainC, flatC, conj_app, loOf]
    have e : q * (S x p.ms + S x (msOf ps) - (p.lo + loOf ps)) = q * (S x p.ms - p.lo) + q * (S x (msOf ps) - loOf ps) := by
      rw [← Int.mul_add]
      congr 1
      omega
    omega
theorem CurvesOk.sum {it : Int → Gs} {x : Int → Int} : ∀ {ps : List Part} {cs : List Curve}, CurvesOk it ps cs → Fits x ps → loOf ps ≤ S x (msOf ps) ∧ S x (msOf ps) ≤ hiOf ps
  | _, _, .nil, _ => by simp [S, msOf, loOf, hiOf]
  | p :: ps, c :: cs, .cons h r, f => by
    unfold Fits at f
    have h1 := f.1.sum
    have h2 := r.sum f.2
    simp only [msOf, S_app, loOf, hiOf]
    omega
end GC

/-! T4: spans: where the best plans are. -/
namespace GC
inductive Span where
  | mk (num : Option Int) (ms : List Int) (lo hi : Int) (pr : Int) (ins : List Span)
namespace Span
def num : Span → Option Int | mk n _ _ _ _ _ => n
def ms : Span → List Int | mk _ m _ _ _ _ => m
def lo : Span → Int | mk _ _ l _ _ _ => l
def hi : Span → Int | mk _ _ _ h _ _ => h
def pr : Span → Int | mk _ _ _ _ p _ => p
def ins : Span → List Span | mk _ _ _ _ _ i => i
end Span
mutual
def Holds (x : Int → Int) : Span → Prop
  | .mk _ ms lo hi _ ins => (lo ≤ S x ms ∧ S x ms ≤ hi) ∧ HoldsAll x ins
def HoldsAll (x : Int → Int) : List Span → Prop
  | [] => True
  | p :: ps => Holds x p ∧ HoldsAll x ps
end
/-- what the best lose at a price -/
def top (c : Curve) (p : Int) (lo : Int) : Int := c.2.1 + conj c.2.2 p - p * lo
end GC

/-! T5: ascending lists, families that never cross. -/
namespace GC
abbrev Asc (l : List Int) : Prop := l.Pairwise (· < ·)
theorem Asc.nodup {l : List Int} (h : Asc l) : l.Nodup := h.imp fun {a b} h => by omega
theorem erase_perm {A : Type} : ∀ {l : List A} {i : Nat} (h : i < l.length), (l[i] :: l.eraseIdx i).Perm l
  | a :: r, 0, _ => .refl _
  | a :: r, i + 1, h => by
    simp only [List.getElem_cons_succ, List.eraseIdx_cons_succ]
    exact (List.Perm.swap _ _ _).trans ((erase_perm (l := r) (i := i) (by simpa using h)).cons a)
theorem nodup_len : ∀ {a b : List Int}, a.Nodup → (∀ x ∈ a, x ∈ b) → a.length ≤ b.length
  | [], _, _, _ => Nat.zero_le _
  | x :: a, b, h, k => by
    obtain ⟨h1, h2⟩ := List.nodup_cons.mp h
    have hx := k x (List.mem_cons_self ..)
    have := nodup_len (a := a) (b := b.erase x) h2 fun y m => (List.mem_erase_of_ne (fun e : y = x => h1 (by rw [← e]; exact m))).mpr (k y (List.mem_cons_of_mem _ m))
    rw [List.length_erase_of_mem hx] at this
    have : 0 < b.length := List.length_pos_of_mem hx
    simp only [List.length_cons]
    omega
def Sub (a b : List Int) : Prop := ∀ x ∈ a, x ∈ b
def Disj (a b : List Int) : Prop := ∀ x ∈ a, x ∉ b
/-- not the same, not crossing -/
def Compat (a b : List Int) : Prop := Disj a b ∨ (Sub a b ∧ a.length < b.length) ∨ (Sub b a ∧ b.length < a.length)
theorem Disj.symm {a b : List Int} (h : Disj a b) : Disj b a := fun x m n => h x n m
theorem Compat.symm {a b : List Int} (h : Compat a b) : Compat b a := by
  rcases h with h | h | h
  · exact .inl h.symm
  · exact .inr (.inr h)
  · exact .inr (.inl h)
def rangeI (n : Nat) : List Int := (List.range n).map fun (k : Nat) => (k : Int)
theorem rangeI_nodup (n : Nat) : (rangeI n).Nodup := by
  unfold rangeI
  refine List.Pairwise.map _ ?_ (List.nodup_range (n := n))
  intro a b h e
  exact h (Int.ofNat.inj e)
theorem rangeI_len (n : Nat) : (rangeI n).length = n := by simp [rangeI]
theorem mem_rangeI {n : Nat} {x : Int} : x ∈ rangeI n ↔ 0 ≤ x ∧ x < n := by
  unfold rangeI
  rw [List.mem_map]
  constructor
  · rintro ⟨k, m, rfl⟩
    have := List.mem_range.mp m
    omega
  · rintro ⟨h1, h2⟩
    exact ⟨x.toNat, List.mem_range.mpr (by omega), by omega⟩
/-- blocks that are all numbers below n, each once; what was found lies in blocks and does not cross -/
structure Blocks (n : Nat) (bs : List (List Int)) : Prop where
  asc : ∀ b ∈ bs, Asc b ∧ b ≠ []
  all : bs.flatten.Perm (rangeI n)
structure Found (bs fs : List (List Int)) : Prop where
  asc : ∀ f ∈ fs, Asc f ∧ f ≠ []
  sub : ∀ f ∈ fs, ∃ b ∈ bs, Sub f b
  pw : fs.Pairwise Compat
theorem Blocks.nodup {n : Nat} {bs : List (List Int)} (h : Blocks n bs) : bs.flatten.Nodup := h.all.nodup_iff.mpr (rangeI_nodup n)
theorem Blocks.len {n : Nat} {bs : List (List Int)} (h : Blocks n bs) {b : List Int} (m : b ∈ bs) : b.length ≤ n := by
  have := nodup_len (b := rangeI n) (h.asc b m).1.nodup fun x mx => h.all.subset (List.mem_flatten.mpr ⟨b, m, mx⟩)
  rwa [rangeI_len] at this
theorem Blocks.count {n : Nat} {bs : List (List Int)} (h : Blocks n bs) : bs.length ≤ n := by
  have e := h.all.length_eq
  rw [rangeI_len, List.length_flatten] at e
  have : ∀ bs : List (List Int), (∀ b ∈ bs, b ≠ []) → bs.length ≤ (bs.map List.length).sum := by
    intro bs
    induction bs with
    | nil => simp
    | cons b r ih =>
      intro h
      have := ih fun x m => h x (List.mem_cons_of_mem _ m)
      have h0 : 0 < b.length := List.length_pos_iff.mpr (h b (List.mem_cons_self ..))
      simp only [List.length_cons, List.map_cons, List.sum_cons]
      omega
  have := this bs fun b m => (h.asc b m).2
  omega
/-- two blocks become one -/
theorem Blocks.merge {n : Nat} {a b m : List Int} {bs : List (List Int)} (h : Blocks n (a :: b :: bs)) (p : m.Perm (a ++ b)) (am : Asc m) : Blocks n (bs ++ [m]) where
  asc := fun c mc => by
    rcases List.mem_append.mp mc with mc | mc
    · exact h.asc c (by simp [mc])
    · rw [List.mem_singleton] at mc
      subst mc
      refine ⟨am, fun e => ?_⟩
      subst e
      have := p.symm.length_eq
      have h0 := (h.asc a (by simp)).2
      simp at this
      exact h0 this.1
  all := by
    refine List.Perm.trans ?_ h.all
    simp only [List.flatten_append, List.flatten_cons, List.flatten_nil, List.append_nil]
    refine (List.perm_append_comm).trans ?_
    rw [← List.append_assoc]
    exact p.append_right _
theorem Found.merge {n : Nat} {a b m : List Int} {bs fs : List (List Int)} (h : Blocks n (a :: b :: bs)) (k : Found (a :: b :: bs) fs) (p : m.Perm (a ++ b)) : Found (bs ++ [m]) fs :=
  ⟨k.asc, fun f mf => by
    obtain ⟨c, mc, s⟩ := k.sub f mf
    simp only [List.mem_cons] at mc
    rcases mc with rfl | rfl | mc
    · exact ⟨m, by simp, fun x mx => p.symm.subset (List.mem_append_left _ (s x mx))⟩
    · exact ⟨m, by simp, fun x mx => p.symm.subset (List.mem_append_right _ (s x mx))⟩
    · exact ⟨c, by simp [mc], s⟩, k.pw⟩
/-- the new block is found -/
theorem Found.more {n : Nat} {a b m : List Int} {bs fs : List (List Int)} (h : Blocks n (a :: b :: bs)) (k : Found (a :: b :: bs) fs) (p : m.Perm (a ++ b)) (am : Asc m) : Found (bs ++ [m]) (fs ++ [m]) := by
  have k2 := Found.merge h k p
  have h2 := h.merge p am
  have pa : 0 < a.length := List.length_pos_iff.mpr (h.asc a (by simp)).2
  have pb : 0 < b.length := List.length_pos_iff.mpr (h.asc b (by simp)).2
  have pl := p.length_eq
  rw [List.length_append] at pl
  refine ⟨fun f mf => ?_, fun f mf => ?_, ?_⟩
  · rcases List.mem_append.mp mf with mf | mf
    · exact k.asc f mf
    · rw [List.mem_singleton] at mf
      subst mf
      exact h2.asc f (by simp)
  · rcases List.mem_append.mp mf with mf | mf
    · exact k2.sub f mf
    · rw [List.mem_singleton] at mf
      subst mf
      exact ⟨f, by simp, fun x m => m⟩
  · refine List.pairwise_append.mpr ⟨k.pw, by simp, fun f mf c mc => ?_⟩
    rw [List.mem_singleton] at mc
    subst mc
    obtain ⟨d, md, s⟩ := k.sub f mf
    have fl := nodup_len (k.asc f mf).1.nodup s
    simp only [List.mem_cons] at md
    rcases md with rfl | rfl | md
    · exact .inr (.inl ⟨fun x mx => p.symm.subset (List.mem_append_left _ (s x mx)), by omega⟩)
    · exact .inr (.inl ⟨fun x mx => p.symm.subset (List.mem_append_right _ (s x mx)), by omega⟩)
    · refine .inl fun x mx mc => ?_
      have nd := h.nodup
      simp only [List.flatten_cons] at nd
      rw [← List.append_assoc] at nd
      have := (List.nodup_append.mp nd).2.2 x (p.subset mc) x (List.mem_flatten.mpr ⟨d, md, s x mx⟩)
      exact this rfl
end GC

/-! L3: systems as laws draw them. -/
namespace FD
open PySem PySem.Spec PyProof.Rows L2
/-! ### systems -/
def stD (s : Int × Int) : D := .tup [.int s.1, .int s.2]
def gD (g : GC.Gs) : D := .tup (g.map stD)
structure Grp where
  ms : List Int
  lo : Int
  hi : Int
def grD (g : Grp) : D := .tup [tpI g.ms, .int g.lo, .int g.hi]
structure Sys where
  items : List GC.Gs
  groups : List Grp
def syD (s : Sys) : D := .tup [.tup (s.items.map gD), .tup (s.groups.map grD)]
theorem falls_snoc {c a : Int} (hc : 0 < c) : ∀ {g : GC.Gs}, GC.Falls g → (∀ x ∈ g, a < x.2) → GC.Falls (g ++ [(c, a)])
  | [], _, _ => ⟨hc, (fun _ h => by cases h), trivial⟩
  | (d, b) :: r, ⟨h1, h2, h3⟩, h => by
    refine ⟨h1, fun x m => ?_, falls_snoc hc h3 fun x m => h x (List.mem_cons_of_mem _ m)⟩
    rcases List.mem_append.mp m with m | m
    · exact h2 x m
    · rw [List.mem_singleton] at m
      subst m
      exact h (d, b) (List.mem_cons_self ..)
theorem v_min2 {a b : Int} : min2D [.int a, .int b] = some (.int (min a b), false) := by
  simp only [min2D]
  congr 3
  split <;> omega
def lenAt {T : Type} (i : Nat) (s : Sg T) : Nat := match s.1[i]? with
  | some (.o (.lst ds)) => ds.length
  | _ => 0
theorem eraseIdx_map {A B : Type} (f : A → B) : ∀ (l : List A) (k : Nat), (l.map f).eraseIdx k = (l.eraseIdx k).map f
  | [], _ => rfl
  | a :: r, 0 => rfl
  | a :: r, k + 1 => by simp only [List.map_cons, List.eraseIdx_cons_succ, eraseIdx_map f r k]
theorem v_popT {A : Type} (mk : A → D) {as : List A} {k : Nat} {i : Int} (e : i = (k : Int)) (h1 : k < as.length) (h2 : as.length ≤ 2 ^ 60) : popD (as.map mk) [.int i] = some ((as.eraseIdx k).map mk, mk as[k]) := by
  subst e
  have e := seqIndex_of (k := k) (n := as.length) (by omega) (by omega)
  have e2 : (as.map mk)[k]? = some (mk as[k]) := by simp [h1]
  have e3 : seqIndex? (k : Int) (as.map mk).length = some k := by rw [List.length_map]; exact e
  show (if small (k : Int) = true then _ else _) = _
  rw [if_pos (small_of (by omega)), e3]
  simp only [e2]
  rw [eraseIdx_map]
theorem sortUp_asc {l : List Int} (h : l.Nodup) : GC.Asc (sortUp l) ∧ (sortUp l).Perm l := by
  have p : (sortUp l).Perm l := List.mergeSort_perm _ _
  refine ⟨?_, p⟩
  have s : (sortUp l).Pairwise fun a b => decide (a ≤ b) = true := List.pairwise_mergeSort (fun a b c h1 h2 => by simp at *; omega) (fun a b => by simp; omega) l
  have nd : (sortUp l).Nodup := p.nodup_iff.mpr h
  refine (List.Pairwise.and s nd).imp fun {a b} h => ?_
  have h1 := of_decide_eq_true h.1
  have := h.2
  omega
theorem cut_map {A B : Type} (f : A → B) (l : List A) (lo hi : Option Int) : cutL (l.map f) lo hi = (cutL l lo hi).map f := by
  unfold cutL
  rw [List.length_map, ← List.map_drop, ← List.map_take]
structure Valid (s : Sys) : Prop where
  n1 : 0 < s.items.length
  n2 : s.items.length ≤ 6
  gains : ∀ g ∈ s.items, GC.Falls g ∧ g.length ≤ 5 ∧ GC.cap g ≤ 1000000000000 ∧ ∀ x ∈ g, -1000000 ≤ x.2 ∧ x.2 ≤ 1000000
  many : s.groups.length ≤ 8
  grp : ∀ g ∈ s.groups, GC.Asc g.ms ∧ g.ms ≠ [] ∧ (∀ x ∈ g.ms, 0 ≤ x ∧ x < s.items.length) ∧ 0 ≤ g.lo ∧ g.lo ≤ g.hi ∧ g.hi ≤ 1000000000000
  pw : s.groups.Pairwise fun a b => GC.Compat a.ms b.ms
theorem list_of {A : Type} (mk : A → D) {P : A → Prop} : ∀ {out : List D}, (∀ (i : Nat) v, out[i]? = some v → ∃ a, v = mk a ∧ P a) → ∃ as : List A, out = as.map mk ∧ ∀ a ∈ as, P a
  | [], _ => ⟨[], rfl, (fun _ h => by cases h)⟩
  | v :: r, h => by
    obtain ⟨a, rfl, p⟩ := h 0 v rfl
    obtain ⟨as, rfl, ps⟩ := list_of (mk := mk) (P := P) (out := r) fun i w e => h (i + 1) w e
    exact ⟨a :: as, rfl, fun x m => by rcases List.mem_cons.mp m with rfl | m; exact p; exact ps x m⟩
theorem v_sumM {A : Type} {as : List A} {h : A → Int} : sumD [.lst (as.map fun a => .int (h a))] = some (.int (as.map h).sum, false) := by
  have e : as.map (fun a => D.int (h a)) = (as.map h).map D.int := by rw [List.map_map]; rfl
  rw [e]
  exact v_sum_l
theorem ord_int {B k : Nat} {i : Int} (h : i.natAbs ≤ B) : ord B k (.int i) = true := by unfold ord; exact decide_eq_true h
theorem ordA_map {A : Type} {B k : Nat} {f : A → D} {as : List A} (h : ∀ a ∈ as, ord B k (f a) = true) : ordA B k (as.map f) = true := by
  rw [ordA_iff]
  intro d m
  obtain ⟨a, ma, rfl⟩ := List.mem_map.mp m
  exact h a ma
theorem blkA_map {A : Type} {n : Nat} {f : A → D} {as : List A} (h : ∀ a ∈ as, blk (f a) ≤ n) : blkA (as.map f) ≤ (n + 1) * as.length := by
  have := blkA_le (n := n) (a := as.map f) fun d m => by
    obtain ⟨a, ma, rfl⟩ := List.mem_map.mp m
    exact h a ma
  simpa using this
theorem tpI_ord {B k : Nat} {ns : List Int} (h : ∀ x ∈ ns, x.natAbs ≤ B) : ord B (k + 1) (tpI ns) = true := ord_tup (ordA_map fun a m => ord_int (h a m))
theorem tpI_blk {ns : List Int} : blk (tpI ns) = ns.length := by
  simp only [blk]
  induction ns with
  | nil => rfl
  | cons a r ih => simp [blkA, blk, ih]; omega
theorem mul_le' {a b c : Nat} (h : b ≤ c) : a * b ≤ a * c := Nat.mul_le_mul_left a h
theorem valid_ord {s : Sys} (h : Valid s) : ord (10 ^ 12) 4 (syD s) = true ∧ blk (syD s) ≤ 300 ∧ noDct (syD s) = true := by
  have hi := h.n2
  have hm := h.many
  have gok : ∀ g ∈ s.items, ord (10 ^ 12) 2 (gD g) = true ∧ blk (gD g) ≤ 15 := fun g mg => by
    have q := h.gains g mg
    refine ⟨ord_tup (ordA_map fun x mx => ?_), ?_⟩
    · have a := q.2.2.2 x mx
      have f := GC.Falls.pos q.1 x mx
      have c : x.1 ≤ GC.cap g := by
        have : ∀ {g : GC.Gs}, GC.Falls g → ∀ {x : Int × Int}, x ∈ g → x.1 ≤ GC.cap g := by
          intro g
          induction g with
          | nil => intro _ _ m; cases m
          | cons y r ih =>
            obtain ⟨c, b⟩ := y
            rintro ⟨h1, h2, h3⟩ x m
            have n := GC.cap_nonneg h3
            simp only [GC.cap]
            rcases List.mem_cons.mp m with rfl | m
            · dsimp only; omega
            · have := ih h3 m
              omega
        exact this q.1 mx
      exact ord_tup (ordA_cons (ord_int (by omega)) (ordA_cons (ord_int (by omega)) ordA_nil))
    · have := blkA_map (n := 2) (f := stD) (as := g) fun x _ => by simp [stD, blk, blkA]
      have := mul_le' (a := 3) q.2.1
      simp only [gD, blk]
      omega
  have rok : ∀ g ∈ s.groups, ord (10 ^ 12) 2 (grD g) = true ∧ blk (grD g) ≤ 9 := fun g mg => by
    have q := h.grp g mg
    have ml : g.ms.length ≤ 6 := by
      have := GC.nodup_len (b := GC.rangeI s.items.length) q.1.nodup fun x mx => GC.mem_rangeI.mpr (q.2.2.1 x mx)
      rw [GC.rangeI_len] at this
      omega
    refine ⟨ord_tup (ordA_cons (tpI_ord fun x mx => ?_) (ordA_cons (ord_int (by omega)) (ordA_cons (ord_int (by omega)) ordA_nil))), ?_⟩
    · have := q.2.2.1 x mx
      omega
    · have := tpI_blk (ns := g.ms)
      simp only [blk, grD, blkA] at this ⊢
      omega
  refine ⟨ord_tup (ordA_cons (ord_tup (ordA_map fun g mg => (gok g mg).1)) (ordA_cons (ord_tup (ordA_map fun g mg => (rok g mg).1)) ordA_nil)), ?_, ?_⟩
  · have a := blkA_map (n := 15) fun g mg => (gok g mg).2
    have b := blkA_map (n := 9) fun g mg => (rok g mg).2
    have := mul_le' (a := 16) hi
    have := mul_le' (a := 10) hm
    simp only [syD, blk, blkA]
    omega
  · have n1 : ∀ as : List Int, noDctA (as.map D.int) = true := fun as => noDctA_iff.mpr fun d m => by obtain ⟨a, _, rfl⟩ := List.mem_map.mp m; rfl
    simp only [syD, noDct, noDctA, Bool.and_true, Bool.and_eq_true]
    refine ⟨noDctA_iff.mpr fun d m => ?_, noDctA_iff.mpr fun d m => ?_⟩
    · obtain ⟨g, _, rfl⟩ := List.mem_map.mp m
      simp only [gD, noDct]
      refine noDctA_iff.mpr fun d m => ?_
      obtain ⟨x, _, rfl⟩ := List.mem_map.mp m
      rfl
    · obtain ⟨g, _, rfl⟩ := List.mem_map.mp m
      simp [grD, noDct, noDctA, n1]
end FD

/-! P1: the program's first tests of values. -/
namespace FD
open PySem PySem.Spec PyProof.Rows L2
noncomputable def fb_is_between {T : Type} : SF T := (seqF (ifF (orF (notF (callF isiD (consA (varF 0) (consA (conF (.ty "int")) nilA)))) (callF isiD (consA (varF 0) (consA (conF (.ty "bool")) nilA)))) (retF (conF (.bl false))) nxF)
  (retF (chainF leD leD (varF 1) (varF 0) (varF 2))))
noncomputable def FF_is_between {T : Type} : FF T := runF 3 3 fb_is_between
theorem len_is_between {T : Type} {ds : List D} {t : T} {o : FOut × T} (h : FF_is_between ds t = some o) : ds.length = 3 := runF_len h

noncomputable def fb_is_tuple_of {T : Type} : SF T := (retF (andF (callF isiD (consA (varF 0) (consA (conF (.ty "tuple")) nilA))) (binF eqD (callF lenD (consA (varF 0) nilA)) (varF 1))))
noncomputable def FF_is_tuple_of {T : Type} : FF T := runF 2 2 fb_is_tuple_of
theorem len_is_tuple_of {T : Type} {ds : List D} {t : T} {o : FOut × T} (h : FF_is_tuple_of ds t = some o) : ds.length = 2 := runF_len h

def btwD (v : D) (a b : Int) : Bool := match v with
  | .int i => decide (a ≤ i) && decide (i ≤ b)
  | _ => false
theorem btwD_int {v : D} {a b : Int} (h : btwD v a b = true) : ∃ i, v = .int i ∧ a ≤ i ∧ i ≤ b := by
  cases v with
  | int i =>
    simp only [btwD, Bool.and_eq_true, decide_eq_true_eq] at h
    exact ⟨i, rfl, h⟩
  | _ => cases h
theorem between_eq {T : Type} {B k : Nat} {v : D} {a b : Int} {t : T} (h : ord B k v = true) : FF_is_between [v, .int a, .int b] t = some (.ok (.bl (btwD v a b)) false, t) := by
  unfold FF_is_between fb_is_between
  cases v with
  | non => simp only [fdA, List.map_cons, List.map_nil, List.length_cons, List.length_nil, List.cons_append, List.nil_append, List.replicate_succ, List.replicate_zero, Nat.zero_add, Nat.reduceAdd, Nat.reduceSub, Nat.sub_self, if_true, if_false, Bool.false_eq_true, Bool.not_true, Bool.not_false, reduceCtorEq, ite_true, ite_false, List.getElem?_cons_zero, List.getElem?_cons_succ, List.set_cons_zero, List.set_cons_succ, LEN, Nat.reduceLeDiff, Option.map_some, fvA, List.length_map, List.length_set, decide_true, decide_false, fhA, List.mem_cons, List.not_mem_nil, or_false, or_true, Nat.reduceEqDiff, Nat.succ_ne_self, fxA, btwD]
  | bl x => simp only [fdA, List.map_cons, List.map_nil, List.length_cons, List.length_nil, List.cons_append, List.nil_append, List.replicate_succ, List.replicate_zero, Nat.zero_add, Nat.reduceAdd, Nat.reduceSub, Nat.sub_self, if_true, if_false, Bool.false_eq_true, Bool.not_true, Bool.not_false, reduceCtorEq, ite_true, ite_false, List.getElem?_cons_zero, List.getElem?_cons_succ, List.set_cons_zero, List.set_cons_succ, LEN, Nat.reduceLeDiff, Option.map_some, fvA, List.length_map, List.length_set, decide_true, decide_false, fhA, List.mem_cons, List.not_mem_nil, or_false, or_true, Nat.reduceEqDiff, Nat.succ_ne_self, fxA, btwD]
  | str x => simp only [fdA, List.map_cons, List.map_nil, List.length_cons, List.length_nil, List.cons_append, List.nil_append, List.replicate_succ, List.replicate_zero, Nat.zero_add, Nat.reduceAdd, Nat.reduceSub, Nat.sub_self, if_true, if_false, Bool.false_eq_true, Bool.not_true, Bool.not_false, reduceCtorEq, ite_true, ite_false, List.getElem?_cons_zero, List.getElem?_cons_succ, List.set_cons_zero, List.set_cons_succ, LEN, Nat.reduceLeDiff, Option.map_some, fvA, List.length_map, List.length_set, decide_true, decide_false, fhA, List.mem_cons, List.not_mem_nil, or_false, or_true, Nat.reduceEqDiff, Nat.succ_ne_self, fxA, btwD]
  | tup x => simp only [fdA, List.map_cons, List.map_nil, List.length_cons, List.length_nil, List.cons_append, List.nil_append, List.replicate_succ, List.replicate_zero, Nat.zero_add, Nat.reduceAdd, Nat.reduceSub, Nat.sub_self, if_true, if_false, Bool.false_eq_true, Bool.not_true, Bool.not_false, reduceCtorEq, ite_true, ite_false, List.getElem?_cons_zero, List.getElem?_cons_succ, List.set_cons_zero, List.set_cons_succ, LEN, Nat.reduceLeDiff, Option.map_some, fvA, List.length_map, List.length_set, decide_true, decide_false, fhA, List.mem_cons, List.not_mem_nil, or_false, or_true, Nat.reduceEqDiff, Nat.succ_ne_self, fxA, btwD]
  | lst x => simp only [fdA, List.map_cons, List.map_nil, List.length_cons, List.length_nil, List.cons_append, List.nil_append, List.replicate_succ, List.replicate_zero, Nat.zero_add, Nat.reduceAdd, Nat.reduceSub, Nat.sub_self, if_true, if_false, Bool.false_eq_true, Bool.not_true, Bool.not_false, reduceCtorEq, ite_true, ite_false, List.getElem?_cons_zero, List.getElem?_cons_succ, List.set_cons_zero, List.set_cons_succ, LEN, Nat.reduceLeDiff, Option.map_some, fvA, List.length_map, List.length_set, decide_true, decide_false, fhA, List.mem_cons, List.not_mem_nil, or_false, or_true, Nat.reduceEqDiff, Nat.succ_ne_self, fxA, btwD]
  | dct x => simp only [fdA, List.map_cons, List.map_nil, List.length_cons, List.length_nil, List.cons_append, List.nil_append, List.replicate_succ, List.replicate_zero, Nat.zero_add, Nat.reduceAdd, Nat.reduceSub, Nat.sub_self, if_true, if_false, Bool.false_eq_true, Bool.not_true, Bool.not_false, reduceCtorEq, ite_true, ite_false, List.getElem?_cons_zero, List.getElem?_cons_succ, List.set_cons_zero, List.set_cons_succ, LEN, Nat.reduceLeDiff, Option.map_some, fvA, List.length_map, List.length_set, decide_true, decide_false, fhA, List.mem_cons, List.not_mem_nil, or_false, or_true, Nat.reduceEqDiff, Nat.succ_ne_self, fxA, btwD]
  | int i =>
    by_cases h1 : a ≤ i
    · simp only [fdA, List.map_cons, List.map_nil, List.length_cons, List.length_nil, List.cons_append, List.nil_append, List.replicate_succ, List.replicate_zero, Nat.zero_add, Nat.reduceAdd, Nat.reduceSub, Nat.sub_self, if_true, if_false, Bool.false_eq_true, Bool.not_true, Bool.not_false, reduceCtorEq, ite_true, ite_false, List.getElem?_cons_zero, List.getElem?_cons_succ, List.set_cons_zero, List.set_cons_succ, LEN, Nat.reduceLeDiff, Option.map_some, fvA, List.length_map, List.length_set, decide_true, decide_false, fhA, List.mem_cons, List.not_mem_nil, or_false, or_true, Nat.reduceEqDiff, Nat.succ_ne_self, fxA, btwD, h1, Bool.true_and]
    · simp only [fdA, List.map_cons, List.map_nil, List.length_cons, List.length_nil, List.cons_append, List.nil_append, List.replicate_succ, List.replicate_zero, Nat.zero_add, Nat.reduceAdd, Nat.reduceSub, Nat.sub_self, if_true, if_false, Bool.false_eq_true, Bool.not_true, Bool.not_false, reduceCtorEq, ite_true, ite_false, List.getElem?_cons_zero, List.getElem?_cons_succ, List.set_cons_zero, List.set_cons_succ, LEN, Nat.reduceLeDiff, Option.map_some, fvA, List.length_map, List.length_set, decide_true, decide_false, fhA, List.mem_cons, List.not_mem_nil, or_false, or_true, Nat.reduceEqDiff, Nat.succ_ne_self, fxA, btwD, h1, Bool.false_and]
  | obj c fs => simp [ord] at h
  | ty c => simp [ord] at h
  | hnd c => simp [ord] at h
  | fn c => simp [ord] at h
def tupLen (v : D) (m : Nat) : Bool := match v with
  | .tup ds => decide (ds.length = m)
  | _ => false
theorem tuple_of_eq {T : Type} {B k : Nat} {v : D} {m : Nat} {t : T} (h : ord B k v = true) : FF_is_tuple_of [v, .int (m : Int)] t = some (.ok (.bl (tupLen v m)) false, t) := by
  unfold FF_is_tuple_of fb_is_tuple_of
  cases v with
  | non => simp only [fdA, List.map_cons, List.map_nil, List.length_cons, List.length_nil, List.cons_append, List.nil_append, List.replicate_succ, List.replicate_zero, Nat.zero_add, Nat.reduceAdd, Nat.reduceSub, Nat.sub_self, if_true, if_false, Bool.false_eq_true, Bool.not_true, Bool.not_false, reduceCtorEq, ite_true, ite_false, List.getElem?_cons_zero, List.getElem?_cons_succ, List.set_cons_zero, List.set_cons_succ, LEN, Nat.reduceLeDiff, Option.map_some, fvA, List.length_map, List.length_set, decide_true, decide_false, fhA, List.mem_cons, List.not_mem_nil, or_false, or_true, Nat.reduceEqDiff, Nat.succ_ne_self, fxA, tupLen]
  | bl x => simp only [fdA, List.map_cons, List.map_nil, List.length_cons, List.length_nil, List.cons_append, List.nil_append, List.replicate_succ, List.replicate_zero, Nat.zero_add, Nat.reduceAdd, Nat.reduceSub, Nat.sub_self, if_true, if_false, Bool.false_eq_true, Bool.not_true, Bool.not_false, reduceCtorEq, ite_true, ite_false, List.getElem?_cons_zero, List.getElem?_cons_succ, List.set_cons_zero, List.set_cons_succ, LEN, Nat.reduceLeDiff, Option.map_some, fvA, List.length_map, List.length_set, decide_true, decide_false, fhA, List.mem_cons, List.not_mem_nil, or_false, or_true, Nat.reduceEqDiff, Nat.succ_ne_self, fxA, tupLen]
  | str x => simp only [fdA, List.map_cons, List.map_nil, List.length_cons, List.length_nil, List.cons_append, List.nil_append, List.replicate_succ, List.replicate_zero, Nat.zero_add, Nat.reduceAdd, Nat.reduceSub, Nat.sub_self, if_true, if_false, Bool.false_eq_true, Bool.not_true, Bool.not_false, reduceCtorEq, ite_true, ite_false, List.getElem?_cons_zero, List.getElem?_cons_succ, List.set_cons_zero, List.set_cons_succ, LEN, Nat.reduceLeDiff, Option.map_some, fvA, List.length_map, List.length_set, decide_true, decide_false, fhA, List.mem_cons, List.not_mem_nil, or_false, or_true, Nat.reduceEqDiff, Nat.succ_ne_self, fxA, tupLen]
  | tup x => simp only [fdA, List.map_cons, List.map_nil, List.length_cons, List.length_nil, List.cons_append, List.nil_append, List.replicate_succ, List.replicate_zero, Nat.zero_add, Nat.reduceAdd, Nat.reduceSub, Nat.sub_self, if_true, if_false, Bool.false_eq_true, Bool.not_true, Bool.not_false, reduceCtorEq, ite_true, ite_false, List.getElem?_cons_zero, List.getElem?_cons_succ, List.set_cons_zero, List.set_cons_succ, LEN, Nat.reduceLeDiff, Option.map_some, fvA, List.length_map, List.length_set, decide_true, decide_false, fhA, List.mem_cons, List.not_mem_nil, or_false, or_true, Nat.reduceEqDiff, Nat.succ_ne_self, fxA, tupLen, Int.ofNat_inj]
  | lst x => simp only [fdA, List.map_cons, List.map_nil, List.length_cons, List.length_nil, List.cons_append, List.nil_append, List.replicate_succ, List.replicate_zero, Nat.zero_add, Nat.reduceAdd, Nat.reduceSub, Nat.sub_self, if_true, if_false, Bool.false_eq_true, Bool.not_true, Bool.not_false, reduceCtorEq, ite_true, ite_false, List.getElem?_cons_zero, List.getElem?_cons_succ, List.set_cons_zero, List.set_cons_succ, LEN, Nat.reduceLeDiff, Option.map_some, fvA, List.length_map, List.length_set, decide_true, decide_false, fhA, List.mem_cons, List.not_mem_nil, or_false, or_true, Nat.reduceEqDiff, Nat.succ_ne_self, fxA, tupLen]
  | dct x => simp only [fdA, List.map_cons, List.map_nil, List.length_cons, List.length_nil, List.cons_append, List.nil_append, List.replicate_succ, List.replicate_zero, Nat.zero_add, Nat.reduceAdd, Nat.reduceSub, Nat.sub_self, if_true, if_false, Bool.false_eq_true, Bool.not_true, Bool.not_false, reduceCtorEq, ite_true, ite_false, List.getElem?_cons_zero, List.getElem?_cons_succ, List.set_cons_zero, List.set_cons_succ, LEN, Nat.reduceLeDiff, Option.map_some, fvA, List.length_map, List.length_set, decide_true, decide_false, fhA, List.mem_cons, List.not_mem_nil, or_false, or_true, Nat.reduceEqDiff, Nat.succ_ne_self, fxA, tupLen]
  | int i => simp only [fdA, List.map_cons, List.map_nil, List.length_cons, List.length_nil, List.cons_append, List.nil_append, List.replicate_succ, List.replicate_zero, Nat.zero_add, Nat.reduceAdd, Nat.reduceSub, Nat.sub_self, if_true, if_false, Bool.false_eq_true, Bool.not_true, Bool.not_false, reduceCtorEq, ite_true, ite_false, List.getElem?_cons_zero, List.getElem?_cons_succ, List.set_cons_zero, List.set_cons_succ, LEN, Nat.reduceLeDiff, Option.map_some, fvA, List.length_map, List.length_set, decide_true, decide_false, fhA, List.mem_cons, List.not_mem_nil, or_false, or_true, Nat.reduceEqDiff, Nat.succ_ne_self, fxA, tupLen]
  | obj c fs => simp [ord] at h
  | ty c => simp [ord] at h
  | hnd c => simp [ord] at h
  | fn c => simp [ord] at h
end FD

/-! P2: prices of groups and their bounds, by the program and by laws. -/
namespace FD
open PySem PySem.Spec PyProof.Rows L2
theorem pairD_map {A B : Type} (f : A → D) (g : B → D) : ∀ (as : List A) (bs : List B), pairD (as.map f) (bs.map g) = (as.zip bs).map fun z => .tup [f z.1, g z.2]
  | [], _ => by simp [pairD]
  | _ :: _, [] => by simp [pairD]
  | a :: as, b :: bs => by simp [pairD, pairD_map f g as bs]
theorem blsD_mapP {A : Type} (p : A → Bool) : ∀ as : List A, blsD (as.map fun a => D.bl (p a)) = some (as.map p)
  | [] => by simp [blsD]
  | a :: as => by simp [blsD, blsD_mapP p as]
theorem v_allM {A : Type} {as : List A} {p : A → Bool} : allD [.lst (as.map fun a => .bl (p a))] = some (.bl (as.all p), false) := by
  simp [allD, blsD_mapP, List.all_map, Function.comp]
theorem v_mul {i j : Int} (h : i.natAbs < 2 ^ 1000) (k : j.natAbs < 2 ^ 1000) : mulD (.int i) (.int j) = some (.int (i * j), false) := by
  unfold mulD
  exact if_pos ⟨Nat.lt_trans h (Nat.pow_lt_pow_right (by decide) (by decide)), Nat.lt_trans k (Nat.pow_lt_pow_right (by decide) (by decide))⟩
theorem count_le : ∀ {g : GC.Gs}, GC.Falls g → ∀ {x : Int × Int}, x ∈ g → 0 < x.1 ∧ x.1 ≤ GC.cap g
  | (c, a) :: r, ⟨h1, h2, h3⟩, x, m => by
    have n := GC.cap_nonneg h3
    simp only [GC.cap]
    rcases List.mem_cons.mp m with rfl | m
    · exact ⟨h1, by dsimp only; omega⟩
    · have := count_le h3 m
      omega
/-! ### by a law -/
end FD

/-! P3: reasons and covers, by the program. -/
namespace FD
open PySem PySem.Spec PyProof.Rows L2
noncomputable def fb_is_choice {T : Type} : SF T := (seqF (ifF (notF (callF isiD (consA (varF 0) (consA (conF (.ty "tuple")) nilA)))) (retF (conF (.bl false))) nxF)
  (seqF (setF 2 (conF (.int 0)))
  (seqF (forF (seqI (varF 0)) (nameG 3) (seqF (ifF (notF (ucallF FF_is_between (consA (varF 3) (consA (varF 2) (consA (binF subD (varF 1) (conF (.int 1))) nilA))))) (retF (conF (.bl false))) nxF)
  (setF 2 (binF addD (varF 3) (conF (.int 1))))))
  (retF (conF (.bl true))))))
noncomputable def FF_is_choice {T : Type} : FF T := runF 4 2 fb_is_choice
theorem len_is_choice {T : Type} {ds : List D} {t : T} {o : FOut × T} (h : FF_is_choice ds t = some o) : ds.length = 2 := runF_len h

noncomputable def fb_capacity_of_gains {T : Type} : SF T := (retF (callF sumD (consA (lcF [] [1, 2] (seqI (varF 0)) (tupG 2 (consG (nameG 1) (consG (nameG 2) nilG))) yesF (varF 1)) nilA)))
noncomputable def FF_capacity_of_gains {T : Type} : FF T := runF 3 1 fb_capacity_of_gains
theorem len_capacity_of_gains {T : Type} {ds : List D} {t : T} {o : FOut × T} (h : FF_capacity_of_gains ds t = some o) : ds.length = 1 := runF_len h

def grp (s : Sys) (i : Int) : Grp := s.groups[i.toNat]?.getD ⟨[], 0, 0⟩
def itm (s : Sys) (i : Int) : GC.Gs := s.items[i.toNat]?.getD []
/-- the members of the groups with these numbers -/
def memL (s : Sys) (ns : List Int) : List Int := ns.flatMap fun i => (grp s i).ms
def intsV : D → Option (List Int)
  | .tup ds => intsD ds
  | _ => none
def ascB (m : Nat) (ns : List Int) : Bool := decide (ns.Pairwise (· < ·)) && ns.all fun x => decide (0 ≤ x) && decide (x < m)
def choiceB (m : Nat) (v : D) : Bool := match intsV v with
  | some ns => ascB m ns
  | none => false
def apartB (s : Sys) (v : D) : Bool := match intsV v with
  | some ns => ascB s.groups.length ns && decide (memL s ns).Nodup
  | none => false
def offB (s : Sys) (g i : D) : Bool := match intsV g, intsV i with
  | some gs, some is => is.all fun x => !decide (x ∈ memL s gs)
  | _, _ => false
def coverB (s : Sys) (v : D) : Bool := match v with
  | .tup [g, i] => apartB s g && choiceB s.items.length i && offB s g i
  | _ => false
theorem intsD_some : ∀ {ds : List D} {ns : List Int}, intsD ds = some ns → ds = ns.map D.int
  | [], _, e => by cases e; rfl
  | d :: ds, ns, e => by
    cases d with
    | int i =>
      simp only [intsD, Option.map_eq_some_iff] at e
      obtain ⟨ms, e1, rfl⟩ := e
      rw [intsD_some e1]
      rfl
    | _ => cases e
theorem ascB_iff {m : Nat} {ns : List Int} : ascB m ns = true ↔ ns.Pairwise (· < ·) ∧ ∀ x ∈ ns, 0 ≤ x ∧ x < m := by
  simp [ascB, List.all_eq_true]
theorem choice_ints {m : Nat} {v : D} (h : choiceB m v = true) : ∃ ns, v = tpI ns ∧ ns.Pairwise (· < ·) ∧ ∀ x ∈ ns, 0 ≤ x ∧ x < m := by
  unfold choiceB at h
  split at h
  · rename_i ns e
    cases v with
    | tup ds =>
      simp only [intsV] at e
      rw [intsD_some e]
      exact ⟨ns, rfl, (ascB_iff.mp h).1, (ascB_iff.mp h).2⟩
    | _ => cases e
  · cases h
theorem choice_tp {m : Nat} {ns : List Int} : choiceB m (tpI ns) = ascB m ns := by simp [choiceB, intsV, tpI, intsD_map]
theorem apart_tp {s : Sys} {ns : List Int} : apartB s (tpI ns) = (ascB s.groups.length ns && decide (memL s ns).Nodup) := by simp [apartB, intsV, tpI, intsD_map]
theorem asc_len {m : Nat} {ns : List Int} (h1 : ns.Pairwise (· < ·)) (h2 : ∀ x ∈ ns, 0 ≤ x ∧ x < m) : ns.length ≤ m := by
  have := GC.nodup_len (b := GC.rangeI m) (GC.Asc.nodup h1) fun x hx => GC.mem_rangeI.mpr (h2 x hx)
  rwa [GC.rangeI_len] at this
theorem choice_eq {T : Type} {B k m : Nat} {v : D} {t : T} (h : ord B k v = true) : FF_is_choice [v, .int (m : Int)] t = some (.ok (.bl (choiceB m v)) false, t) := by
  refine w_eq ?_
  unfold FF_is_choice fb_is_choice
  cases v with
  | tup ds =>
    simp only [fdA, List.map_cons, List.map_nil, List.length_cons, List.length_nil, List.cons_append, List.nil_append, List.replicate_succ, List.replicate_zero, Nat.zero_add, Nat.reduceAdd, Nat.reduceSub, Nat.sub_self, if_true, if_false, Bool.false_eq_true, Bool.not_true, Bool.not_false, reduceCtorEq, ite_true, ite_false, List.getElem?_cons_zero, List.getElem?_cons_succ, List.set_cons_zero, List.set_cons_succ, LEN, Nat.reduceLeDiff, Option.map_some, fvA, List.length_map, List.length_set, decide_true, decide_false, fhA, List.mem_cons, List.not_mem_nil, or_false, or_true, Nat.reduceEqDiff, Nat.succ_ne_self, fxA, fwA, fyA, and_true, true_and, imp_self, true_imp_iff, false_imp_iff, implies_true, fzA, fzW]
    refine w_forA ds (fun d => d) (by simp) (fun l s => ∃ (ms : List Int) (b : Int) (x : Sl), l = ms.map D.int ∧ ms.Pairwise (· < ·) ∧ (∀ y ∈ ms, 0 ≤ y ∧ y < m ∧ y < b) ∧ 0 ≤ b ∧ (ms = [] → b = 0) ∧ (ms ≠ [] → b - 1 ∈ ms) ∧ s.1 = [.v (.tup ds), .v (.int (m : Int)), .v (.int b), x] ∧ s.2 = t)
      ⟨[], 0, .no, rfl, .nil, (fun _ h => by cases h), by omega, fun _ => rfl, fun z => absurd rfl z, rfl, rfl⟩ ?_ ?_
    · rintro l d r ⟨τ, u⟩ el ⟨ms, b, x, rfl, ha, hr, b0, b1, b2, rfl, rfl⟩
      have od : ∃ B k, ord B k d = true := by
        cases k with
        | zero => simp [ord] at h
        | succ k =>
          unfold ord at h
          exact ⟨B, k, ordA_iff.mp h d (by rw [el]; simp)⟩
      obtain ⟨B', k', od⟩ := od
      have e1 := between_eq (a := b) (b := (m : Int) - 1) (t := u) od
      cases e : btwD d b ((m : Int) - 1) with
      | true =>
        obtain ⟨i, rfl, i1, i2⟩ := btwD_int e
        rw [e] at e1
        simp only [fdA, List.map_cons, List.map_nil, List.length_cons, List.length_nil, List.cons_append, List.nil_append, List.replicate_succ, List.replicate_zero, Nat.zero_add, Nat.reduceAdd, Nat.reduceSub, Nat.sub_self, if_true, if_false, Bool.false_eq_true, Bool.not_true, Bool.not_false, reduceCtorEq, ite_true, ite_false, List.getElem?_cons_zero, List.getElem?_cons_succ, List.set_cons_zero, List.set_cons_succ, LEN, Nat.reduceLeDiff, Option.map_some, fvA, List.length_map, List.length_set, decide_true, decide_false, fhA, List.mem_cons, List.not_mem_nil, or_false, or_true, Nat.reduceEqDiff, Nat.succ_ne_self, fxA, fwA, fyA, and_true, true_and, imp_self, true_imp_iff, false_imp_iff, implies_true, fzA, fzW, e1]
        refine ⟨ms ++ [i], i + 1, .v (.int i), by simp, ?_, fun y hy => ?_, by omega, fun z => absurd z (by simp), fun _ => by simp, rfl⟩
        · refine List.pairwise_append.mpr ⟨ha, by simp, fun y hy z hz => ?_⟩
          rw [List.mem_singleton] at hz
          subst hz
          have := hr y hy
          omega
        · rcases List.mem_append.mp hy with hy | hy
          · have := hr y hy
            omega
          · rw [List.mem_singleton] at hy
            subst hy
            omega
      | false =>
        rw [e] at e1
        simp only [fdA, List.map_cons, List.map_nil, List.length_cons, List.length_nil, List.cons_append, List.nil_append, List.replicate_succ, List.replicate_zero, Nat.zero_add, Nat.reduceAdd, Nat.reduceSub, Nat.sub_self, if_true, if_false, Bool.false_eq_true, Bool.not_true, Bool.not_false, reduceCtorEq, ite_true, ite_false, List.getElem?_cons_zero, List.getElem?_cons_succ, List.set_cons_zero, List.set_cons_succ, LEN, Nat.reduceLeDiff, Option.map_some, fvA, List.length_map, List.length_set, decide_true, decide_false, fhA, List.mem_cons, List.not_mem_nil, or_false, or_true, Nat.reduceEqDiff, Nat.succ_ne_self, fxA, fwA, fyA, and_true, true_and, imp_self, true_imp_iff, false_imp_iff, implies_true, fzA, fzW, e1]
        have : choiceB m (.tup ds) = false := by
          cases q : choiceB m (.tup ds) with
          | false => rfl
          | true =>
            obtain ⟨ns, en, p1, p2⟩ := choice_ints q
            simp only [tpI, D.tup.injEq] at en
            rw [en] at el
            obtain ⟨n1, n2, rfl, e2, e3⟩ := List.map_eq_append_iff.mp el
            obtain ⟨i, n3, rfl, e4, e5⟩ := List.map_eq_cons_iff.mp e3
            have em : n1 = ms := (List.map_inj_right (fun a b h => by cases h; rfl)).mp e2
            subst em
            subst e4
            have pi := p2 i (by simp)
            have lt : ∀ y ∈ n1, y < i := fun y hy => (List.pairwise_append.mp p1).2.2 y hy i (by simp)
            have : b ≤ i := by
              by_cases z : n1 = []
              · have := b1 z
                omega
              · have := lt _ (b2 z)
                omega
            simp only [btwD, Bool.and_eq_false_iff, decide_eq_false_iff_not] at e
            omega
        rw [this]
    · rintro ⟨τ, u⟩ ⟨ms, b, x, rfl, ha, hr, b0, b1, b2, rfl, rfl⟩
      have : choiceB m (.tup (ms.map D.int)) = true := by
        show choiceB m (tpI ms) = true
        rw [choice_tp]
        exact ascB_iff.mpr ⟨ha, fun y hy => ⟨(hr y hy).1, (hr y hy).2.1⟩⟩
      simp only [fdA, List.map_cons, List.map_nil, List.length_cons, List.length_nil, List.cons_append, List.nil_append, List.replicate_succ, List.replicate_zero, Nat.zero_add, Nat.reduceAdd, Nat.reduceSub, Nat.sub_self, if_true, if_false, Bool.false_eq_true, Bool.not_true, Bool.not_false, reduceCtorEq, ite_true, ite_false, List.getElem?_cons_zero, List.getElem?_cons_succ, List.set_cons_zero, List.set_cons_succ, LEN, Nat.reduceLeDiff, Option.map_some, fvA, List.length_map, List.length_set, decide_true, decide_false, fhA, List.mem_cons, List.not_mem_nil, or_false, or_true, Nat.reduceEqDiff, Nat.succ_ne_self, fxA, fwA, fyA, and_true, true_and, imp_self, true_imp_iff, false_imp_iff, implies_true, fzA, fzW, this]
  | non => simp only [fdA, List.map_cons, List.map_nil, List.length_cons, List.length_nil, List.cons_append, List.nil_append, List.replicate_succ, List.replicate_zero, Nat.zero_add, Nat.reduceAdd, Nat.reduceSub, Nat.sub_self, if_true, if_false, Bool.false_eq_true, Bool.not_true, Bool.not_false, reduceCtorEq, ite_true, ite_false, List.getElem?_cons_zero, List.getElem?_cons_succ, List.set_cons_zero, List.set_cons_succ, LEN, Nat.reduceLeDiff, Option.map_some, fvA, List.length_map, List.length_set, decide_true, decide_false, fhA, List.mem_cons, List.not_mem_nil, or_false, or_true, Nat.reduceEqDiff, Nat.succ_ne_self, fxA, fwA, fyA, and_true, true_and, imp_self, true_imp_iff, false_imp_iff, implies_true, fzA, fzW, choiceB, intsV]
  | bl x => simp only [fdA, List.map_cons, List.map_nil, List.length_cons, List.length_nil, List.cons_append, List.nil_append, List.replicate_succ, List.replicate_zero, Nat.zero_add, Nat.reduceAdd, Nat.reduceSub, Nat.sub_self, if_true, if_false, Bool.false_eq_true, Bool.not_true, Bool.not_false, reduceCtorEq, ite_true, ite_false, List.getElem?_cons_zero, List.getElem?_cons_succ, List.set_cons_zero, List.set_cons_succ, LEN, Nat.reduceLeDiff, Option.map_some, fvA, List.length_map, List.length_set, decide_true, decide_false, fhA, List.mem_cons, List.not_mem_nil, or_false, or_true, Nat.reduceEqDiff, Nat.succ_ne_self, fxA, fwA, fyA, and_true, true_and, imp_self, true_imp_iff, false_imp_iff, implies_true, fzA, fzW, choiceB, intsV]
  | str x => simp only [fdA, List.map_cons, List.map_nil, List.length_cons, List.length_nil, List.cons_append, List.nil_append, List.replicate_succ, List.replicate_zero, Nat.zero_add, Nat.reduceAdd, Nat.reduceSub, Nat.sub_self, if_true, if_false, Bool.false_eq_true, Bool.not_true, Bool.not_false, reduceCtorEq, ite_true, ite_false, List.getElem?_cons_zero, List.getElem?_cons_succ, List.set_cons_zero, List.set_cons_succ, LEN, Nat.reduceLeDiff, Option.map_some, fvA, List.length_map, List.length_set, decide_true, decide_false, fhA, List.mem_cons, List.not_mem_nil, or_false, or_true, Nat.reduceEqDiff, Nat.succ_ne_self, fxA, fwA, fyA, and_true, true_and, imp_self, true_imp_iff, false_imp_iff, implies_true, fzA, fzW, choiceB, intsV]
  | lst x => simp only [fdA, List.map_cons, List.map_nil, List.length_cons, List.length_nil, List.cons_append, List.nil_append, List.replicate_succ, List.replicate_zero, Nat.zero_add, Nat.reduceAdd, Nat.reduceSub, Nat.sub_self, if_true, if_false, Bool.false_eq_true, Bool.not_true, Bool.not_false, reduceCtorEq, ite_true, ite_false, List.getElem?_cons_zero, List.getElem?_cons_succ, List.set_cons_zero, List.set_cons_succ, LEN, Nat.reduceLeDiff, Option.map_some, fvA, List.length_map, List.length_set, decide_true, decide_false, fhA, List.mem_cons, List.not_mem_nil, or_false, or_true, Nat.reduceEqDiff, Nat.succ_ne_self, fxA, fwA, fyA, and_true, true_and, imp_self, true_imp_iff, false_imp_iff, implies_true, fzA, fzW, choiceB, intsV]
  | dct x => simp only [fdA, List.map_cons, List.map_nil, List.length_cons, List.length_nil, List.cons_append, List.nil_append, List.replicate_succ, List.replicate_zero, Nat.zero_add, Nat.reduceAdd, Nat.reduceSub, Nat.sub_self, if_true, if_false, Bool.false_eq_true, Bool.not_true, Bool.not_false, reduceCtorEq, ite_true, ite_false, List.getElem?_cons_zero, List.getElem?_cons_succ, List.set_cons_zero, List.set_cons_succ, LEN, Nat.reduceLeDiff, Option.map_some, fvA, List.length_map, List.length_set, decide_true, decide_false, fhA, List.mem_cons, List.not_mem_nil, or_false, or_true, Nat.reduceEqDiff, Nat.succ_ne_self, fxA, fwA, fyA, and_true, true_and, imp_self, true_imp_iff, false_imp_iff, implies_true, fzA, fzW, choiceB, intsV]
  | int i => simp only [fdA, List.map_cons, List.map_nil, List.length_cons, List.length_nil, List.cons_append, List.nil_append, List.replicate_succ, List.replicate_zero, Nat.zero_add, Nat.reduceAdd, Nat.reduceSub, Nat.sub_self, if_true, if_false, Bool.false_eq_true, Bool.not_true, Bool.not_false, reduceCtorEq, ite_true, ite_false, List.getElem?_cons_zero, List.getElem?_cons_succ, List.set_cons_zero, List.set_cons_succ, LEN, Nat.reduceLeDiff, Option.map_some, fvA, List.length_map, List.length_set, decide_true, decide_false, fhA, List.mem_cons, List.not_mem_nil, or_false, or_true, Nat.reduceEqDiff, Nat.succ_ne_self, fxA, fwA, fyA, and_true, true_and, imp_self, true_imp_iff, false_imp_iff, implies_true, fzA, fzW, choiceB, intsV]
  | obj c fs => simp [ord] at h
  | ty c => simp [ord] at h
  | hnd c => simp [ord] at h
  | fn c => simp [ord] at h
theorem capgains_eq {T : Type} {g : GC.Gs} {t : T} (h : g.length ≤ 100000) : FF_capacity_of_gains [gD g] t = some (.ok (.int (GC.cap g)) false, t) := by
  refine w_eq ?_
  unfold FF_capacity_of_gains fb_capacity_of_gains gD
  simp only [fdA, List.map_cons, List.map_nil, List.length_cons, List.length_nil, List.cons_append, List.nil_append, List.replicate_succ, List.replicate_zero, Nat.zero_add, Nat.reduceAdd, Nat.reduceSub, Nat.sub_self, if_true, if_false, Bool.false_eq_true, Bool.not_true, Bool.not_false, reduceCtorEq, ite_true, ite_false, List.getElem?_cons_zero, List.getElem?_cons_succ, List.set_cons_zero, List.set_cons_succ, LEN, Nat.reduceLeDiff, Option.map_some, fvA, List.length_map, List.length_set, decide_true, decide_false, fhA, List.mem_cons, List.not_mem_nil, or_false, or_true, Nat.reduceEqDiff, Nat.succ_ne_self, fxA, fwA, fyA, and_true, true_and, imp_self, true_imp_iff, false_imp_iff, implies_true, fzA, fzW]
  refine ⟨by simpa using h, w_map g stD rfl (fun s => .int s.1) (fun s _ => ?_) ?_⟩
  · unfold stD
    simp only [fdA, List.map_cons, List.map_nil, List.length_cons, List.length_nil, List.cons_append, List.nil_append, List.replicate_succ, List.replicate_zero, Nat.zero_add, Nat.reduceAdd, Nat.reduceSub, Nat.sub_self, if_true, if_false, Bool.false_eq_true, Bool.not_true, Bool.not_false, reduceCtorEq, ite_true, ite_false, List.getElem?_cons_zero, List.getElem?_cons_succ, List.set_cons_zero, List.set_cons_succ, LEN, Nat.reduceLeDiff, Option.map_some, fvA, List.length_map, List.length_set, decide_true, decide_false, fhA, List.mem_cons, List.not_mem_nil, or_false, or_true, Nat.reduceEqDiff, Nat.succ_ne_self, fxA, fwA, fyA, and_true, true_and, imp_self, true_imp_iff, false_imp_iff, implies_true, fzA, fzW]
  · have e : ∀ g : GC.Gs, (g.map fun s => s.1).sum = GC.cap g := by
      intro g
      induction g with
      | nil => rfl
      | cons s r ih => obtain ⟨c, a⟩ := s; simp [GC.cap, ih]
    simp only [fdA, List.map_cons, List.map_nil, List.length_cons, List.length_nil, List.cons_append, List.nil_append, List.replicate_succ, List.replicate_zero, Nat.zero_add, Nat.reduceAdd, Nat.reduceSub, Nat.sub_self, if_true, if_false, Bool.false_eq_true, Bool.not_true, Bool.not_false, reduceCtorEq, ite_true, ite_false, List.getElem?_cons_zero, List.getElem?_cons_succ, List.set_cons_zero, List.set_cons_succ, LEN, Nat.reduceLeDiff, Option.map_some, fvA, List.length_map, List.length_set, decide_true, decide_false, fhA, List.mem_cons, List.not_mem_nil, or_false, or_true, Nat.reduceEqDiff, Nat.succ_ne_self, fxA, fwA, fyA, and_true, true_and, imp_self, true_imp_iff, false_imp_iff, implies_true, fzA, fzW, v_sumM, e]
def lowOf (s : Sys) (ns : List Int) : Int := (ns.map fun i => (grp s i).lo).sum
def mostOf (s : Sys) (ns : List Int) : Int := (ns.map fun i => (grp s i).hi).sum
def capsOf (s : Sys) (is : List Int) : Int := (is.map fun i => GC.cap (itm s i)).sum
theorem cover_tp {s : Sys} {gs is : List Int} (a1 : gs.Pairwise (· < ·)) (a2 : ∀ x ∈ gs, 0 ≤ x ∧ x < s.groups.length) (a3 : (memL s gs).Nodup) (b1 : is.Pairwise (· < ·)) (b2 : ∀ x ∈ is, 0 ≤ x ∧ x < s.items.length) :
    coverB s (.tup [tpI gs, tpI is]) = is.all fun x => !decide (x ∈ memL s gs) := by
  simp only [coverB, apart_tp, choice_tp, ascB_iff.mpr ⟨a1, a2⟩, ascB_iff.mpr ⟨b1, b2⟩, decide_eq_true a3, Bool.and_self, Bool.true_and]
  simp [offB, intsV, tpI, intsD_map]
end FD

/-! Q1: the parts of a system: how they are built, what they tell. -/
namespace FD
open GC
def itemP (s : Sys) (i : Int) : Part := .mk none [i] 0 (cap (itm s i)) [] [] [i] []
mutual
def depP : Part → Nat
  | .mk _ _ _ _ _ _ _ ins => 1 + depsP ins
def depsP : List Part → Nat
  | [] => 0
  | p :: ps => max (depP p) (depsP ps)
end
/-! ### lists of parts -/
/-! ### what is true of a part -/
structure PartOk (s : Sys) (done : List Int) (p : Part) : Prop where
  good : Good (itm s) p
  ne : p.ms ≠ []
  kind : (∃ i, p = itemP s i) ∨ ∃ k ∈ done, p.ms.Perm (grp s k).ms
  dep : depP p ≤ p.ms.length + 1
  rs1 : ∀ k ∈ p.rs, k ∈ done
  rs2 : (memL s p.rs).Nodup
  rs3 : ∀ i ∈ memL s p.rs, i ∈ p.ms
  rs4 : lowOf s p.rs = p.lo
  cg1 : ∀ k ∈ p.cg, k ∈ done
  cov : (memL s p.cg ++ p.ci).Perm p.ms
  cb : mostOf s p.cg + capsOf s p.ci = p.hi
theorem PartOk.more {s : Sys} {a b : List Int} {p : Part} (h : PartOk s a p) (sub : ∀ k ∈ a, k ∈ b) : PartOk s b p :=
  { h with kind := h.kind.imp id fun ⟨k, m, q⟩ => ⟨k, sub k m, q⟩, rs1 := fun k m => sub k (h.rs1 k m), cg1 := fun k m => sub k (h.cg1 k m) }
/-! ### a group's part -/
/-! ### the parts so far -/
def keeps (s : Sys) (x : Int → Int) (ks : List Int) : Prop := ∀ k ∈ ks, (grp s k).lo ≤ S x (grp s k).ms ∧ S x (grp s k).ms ≤ (grp s k).hi
end FD

/-! P4: plans by the program: is_plan, broken_groups, fits, gain_of. -/
namespace FD
open PySem PySem.Spec PyProof.Rows L2
/-- a plan's units, by item -/
def at_ (ns : List Int) : Int → Int := fun i => ns[i.toNat]?.getD 0
def planB (s : Sys) (v : D) : Bool := match v with
  | .tup ds => decide (ds.length = s.items.length) && (ds.zip s.items).all fun z => btwD z.1 0 (GC.cap z.2)
  | _ => false
structure PlanL (s : Sys) (ns : List Int) : Prop where
  len : ns.length = s.items.length
  rng : ∀ z ∈ ns.zip s.items, 0 ≤ z.1 ∧ z.1 ≤ GC.cap z.2
theorem zip_mapL {A B C : Type} (f : A → C) : ∀ (as : List A) (bs : List B), (as.map f).zip bs = (as.zip bs).map fun z => (f z.1, z.2)
  | [], _ => rfl
  | _ :: _, [] => rfl
  | a :: as, b :: bs => by simp only [List.map_cons, List.zip_cons_cons, zip_mapL f as bs]
theorem PlanL.ok {s : Sys} {ns : List Int} (h : PlanL s ns) : planB s (tpI ns) = true := by
  simp only [planB, tpI, List.length_map, h.len, decide_true, Bool.true_and, zip_mapL, List.all_map, List.all_eq_true]
  intro z m
  have := h.rng z m
  simp only [Function.comp, btwD, Bool.and_eq_true, decide_eq_true_eq]
  exact this
theorem PlanL.big {s : Sys} {ns : List Int} (hs : Valid s) (h : PlanL s ns) : ∀ x ∈ ns, 0 ≤ x ∧ x ≤ 1000000000000 := fun x hx => by
  obtain ⟨i, hi, rfl⟩ := List.mem_iff_getElem.mp hx
  have l := h.len
  have hz : (ns[i], s.items[i]'(by omega)) ∈ ns.zip s.items := by
    have : (ns.zip s.items)[i]'(by rw [List.length_zip]; omega) = (ns[i], s.items[i]'(by omega)) := List.getElem_zip
    rw [← this]
    exact List.getElem_mem _
  have a := h.rng _ hz
  have b := (hs.gains _ (List.getElem_mem (by omega : i < s.items.length))).2.2.1
  dsimp only at a
  omega
theorem Valid.steps {s : Sys} (hs : Valid s) {g : GC.Gs} (h : g ∈ s.items) : ∀ x ∈ g, 0 ≤ x.1 ∧ x.1 ≤ 1000000000000 ∧ -1000000 ≤ x.2 ∧ x.2 ≤ 1000000 := fun x hx => by
  have hg := hs.gains g h
  have a := count_le hg.1 hx
  have b := hg.2.2.1
  have c := hg.2.2.2 x hx
  omega
end FD

/-! Q2: the part of all items: what it tells of plans that fit. -/
namespace FD
open GC
def lenG (s : Sys) (k : Int) : Int := ((grp s k).ms.length : Nat)
/-- the groups' numbers, the smaller ones first -/
def order (s : Sys) : List Int := (sortK (((rangeI s.groups.length).map (lenG s)).zip (rangeI s.groups.length))).map (·.2)
/-! ### plans -/
end FD

/-! L4: reasons and covers, by laws. -/
namespace FD
open PySem PySem.Spec PyProof.Rows L2
structure ApartL (s : Sys) (gs : List Int) : Prop where
  asc : gs.Pairwise (· < ·)
  rng : ∀ x ∈ gs, 0 ≤ x ∧ x < s.groups.length
  nd : (memL s gs).Nodup
theorem ApartL.ok {s : Sys} {gs : List Int} (h : ApartL s gs) : apartB s (tpI gs) = true := by
  rw [apart_tp, ascB_iff.mpr ⟨h.asc, h.rng⟩, decide_eq_true h.nd]
  rfl
structure CoverL (s : Sys) (gs is : List Int) : Prop where
  ap : ApartL s gs
  asc : is.Pairwise (· < ·)
  rng : ∀ x ∈ is, 0 ≤ x ∧ x < s.items.length
  off : ∀ x ∈ is, x ∉ memL s gs
theorem CoverL.ok {s : Sys} {gs is : List Int} (h : CoverL s gs is) : coverB s (.tup [tpI gs, tpI is]) = true := by
  rw [cover_tp h.ap.asc h.ap.rng h.ap.nd h.asc h.rng, List.all_eq_true]
  intro x hx
  simpa using h.off x hx
end FD

/-! P6: parts by the program. -/
namespace FD
open PySem PySem.Spec PyProof.Rows L2
section
variable {T : Type} {n ms lo hi rs cg ci ins d : D} {τ : List Sl} {i : Nat} {t : T}
end
end FD

/-! P7: plans with a total, certificates, by the program. -/
namespace FD
open PySem PySem.Spec PyProof.Rows L2
/-! ### numbers with a sum -/
/-! ### the shares of a part -/
end FD

/-! P8: shares of a part, plans with a total, certificates. -/
namespace FD
open PySem PySem.Spec PyProof.Rows L2
end FD

/-! P9: plans with a total and certificates, as data. -/
namespace FD
open PySem PySem.Spec PyProof.Rows L2
end FD

/-! PA: contradictions, by the program. -/
namespace FD
open PySem PySem.Spec PyProof.Rows L2
end FD

/-! L5: plans by the laws. -/
namespace FD
open PySem PySem.Spec PyProof.Rows L2
end FD

/-! PB: certificates judged, by the program. -/
namespace FD
open PySem PySem.Spec PyProof.Rows L2
end FD

/-! LF: texts of numbers and of plans. -/
namespace FD
open PySem PySem.Spec PyProof.Rows L2 TL
noncomputable def fb_spaced {T : Type} : SF T := (retF (mth1F joinD (conF (.str (Str.ofString " "))) (lcF [] [1] (seqI (varF 0)) (nameG 1) yesF (callF strD (consA (varF 1) nilA)))))
noncomputable def FF_spaced {T : Type} : FF T := runF 2 1 fb_spaced
theorem len_spaced {T : Type} {ds : List D} {t : T} {o : FOut × T} (h : FF_spaced ds t = some o) : ds.length = 1 := runF_len h

noncomputable def fb_number_in {T : Type} : SF T := (seqF (ifF (orF (notF (unF (txB Txt.isascii) (varF 0))) (orF (notF (unF (txB Txt.isdigit) (varF 0))) (binF gtD (callF lenSD (consA (varF 0) nilA)) (conF (.int 13))))) (retF (conF .non)) nxF)
  (seqF (ifF (andF (mth1F startsD (varF 0) (conF (.str (Str.ofString "0")))) (binF gtD (callF lenSD (consA (varF 0) nilA)) (conF (.int 1)))) (retF (conF .non)) nxF)
  (retF (callF intSD (consA (varF 0) nilA)))))
noncomputable def FF_number_in {T : Type} : FF T := runF 1 1 fb_number_in
theorem len_number_in {T : Type} {ds : List D} {t : T} {o : FOut × T} (h : FF_number_in ds t = some o) : ds.length = 1 := runF_len h

/-! ### texts' methods, run by simp -/
section
variable {T : Type}
def mthG (op : D → D → Option (D × Bool)) (fb : EF T) (ra : Res) (s : Sg T) : Option D → Option (Out × Sg T)
  | some (.str _) => bnd (binK2 op ra) (fb s)
  | _ => none
theorem q_mth1 {op : D → D → Option (D × Bool)} {fa fb : EF T} {s : Sg T} : mth1F op fa fb s = bnd (mthK op fb) (fa s) := (rfl)
theorem q_mthK {op : D → D → Option (D × Bool)} {fb : EF T} {ra : Res} {s : Sg T} : mthK op fb ra s = mthG op fb ra s (peek s.1 (hold ra)) := by
  unfold mthK mthG
  rcases peek s.1 (hold ra) with _ | d
  · rfl
  · cases d <;> rfl
theorem q_mthG {op : D → D → Option (D × Bool)} {fb : EF T} {ra : Res} {s : Sg T} {a : Str} : mthG op fb ra s (some (.str a)) = bnd (binK2 op ra) (fb s) := (rfl)
end
/-! ### digits -/
def isDig (c : Nat) : Bool := decide (48 ≤ c) && decide (c ≤ 57)
theorem dig_ascii : ∀ c, c < 128 → Unicode.isDigit c = isDig c := by decide +kernel
theorem isDig_iff {c : Nat} : isDig c = true ↔ 48 ≤ c ∧ c ≤ 57 := by simp [isDig]
theorem dig_all {l : List Nat} : l.all isDig = true ↔ NumText.AllDigits l := by
  rw [List.all_eq_true]
  exact ⟨fun h c m => isDig_iff.mp (h c m), fun h c m => isDig_iff.mpr (h c m)⟩
theorem ascii_digit (w : Str) : (Txt.isascii w && Txt.isdigit w) = (decide (0 < w.length) && (tl w).all isDig) := by
  unfold Txt.isascii Txt.isdigit
  rw [← Array.all_toList, ← Array.all_toList]
  show (((tl w).all fun c => decide (c < 128)) && (decide (w.length > 0) && (tl w).all Unicode.isDigit)) = _
  generalize decide (w.length > 0) = z
  rw [Bool.eq_iff_iff]
  simp only [Bool.and_eq_true, List.all_eq_true, decide_eq_true_eq]
  constructor
  · rintro ⟨h1, h2, h3⟩
    exact ⟨h2, fun c m => by rw [← dig_ascii c (h1 c m)]; exact h3 c m⟩
  · rintro ⟨h2, h3⟩
    have lt : ∀ c ∈ tl w, c < 128 := fun c m => by
      have := isDig_iff.mp (h3 c m)
      omega
    exact ⟨lt, h2, fun c m => by rw [dig_ascii c (lt c m)]; exact h3 c m⟩
abbrev sZero : Str := Str.ofString "0"
theorem str_zero : sZero = ⟨#[48]⟩ := by decide +kernel
theorem starts_zero (w : Str) : Txt.startswith w sZero = ((tl w).head? == some 48) := by
  rw [str_zero]
  unfold Txt.startswith Builtin.Str.subAt
  obtain ⟨⟨l⟩⟩ := w
  cases l with
  | nil => rfl
  | cons c r =>
    show (decide (0 + 1 ≤ (c :: r).length) && ((⟨c :: r⟩ : Array Nat).extract 0 (0 + 1) == #[48])) = (some c == some 48)
    have e : (⟨c :: r⟩ : Array Nat).extract 0 (0 + 1) = #[c] := by simp
    rw [e]
    simp
/-- a number's text -/
def goodW (w : Str) : Bool := decide (0 < w.length) && ((tl w).all isDig && (decide (w.length ≤ 13) && !(decide (1 < w.length) && ((tl w).head? == some 48))))
def numS (w : Str) : Option Nat := if goodW w = true then some (NumText.digitsVal (tl w)) else none
def optN : Option Nat → D
  | some n => .int (n : Nat)
  | none => .non
theorem good_int {w : Str} (h1 : 0 < w.length) (h2 : (tl w).all isDig = true) (h3 : w.length ≤ 4300) : PySem.intText? w = some ((NumText.digitsVal (tl w) : Nat) : Int) := by
  refine intText_digits (dig_all.mp h2) (fun z => ?_) h3
  have : (tl w).length = 0 := by rw [show tl w = [] from z]; rfl
  rw [← len_tl] at this
  omega
theorem number_in_eq {T : Type} {w : Str} {t : T} (h : w.length ≤ 1000000) : FF_number_in [.str w] t = some (.ok (optN (numS w)) false, t) := by
  have ad := ascii_digit w
  have ln : lenSD [.str w] = some (.int (w.length : Nat), false) := if_pos h
  have sz := starts_zero w
  have s0 : startsD (.str w) (.str sZero) = some (.bl (Txt.startswith w sZero), false) := rfl
  have ta : txB Txt.isascii (.str w) = some (.bl (Txt.isascii w), false) := rfl
  have td : txB Txt.isdigit (.str w) = some (.bl (Txt.isdigit w), false) := rfl
  refine w_eq ?_
  unfold FF_number_in fb_number_in
  simp only [fdA, List.map_cons, List.map_nil, List.length_cons, List.length_nil, List.cons_append, List.nil_append, List.replicate_succ, List.replicate_zero, Nat.zero_add, Nat.reduceAdd, Nat.reduceSub, Nat.sub_self, if_true, if_false, Bool.false_eq_true, Bool.not_true, Bool.not_false, reduceCtorEq, ite_true, ite_false, List.getElem?_cons_zero, List.getElem?_cons_succ, List.set_cons_zero, List.set_cons_succ, LEN, Nat.reduceLeDiff, Option.map_some, fvA, List.length_map, List.length_set, decide_true, decide_false, fhA, List.mem_cons, List.not_mem_nil, or_false, or_true, Nat.reduceEqDiff, Nat.succ_ne_self, fxA, fwA, fyA, and_true, true_and, imp_self, true_imp_iff, false_imp_iff, implies_true, fzA, fzW, ta, td, ln, q_mth1, q_mthK, q_mthG, s0]
  have ng : goodW w = false → numS w = none := fun z => by simp [numS, z]
  refine ⟨fun h1 => ⟨fun h2 => ⟨fun h3 => ?_, fun h3 => ?_⟩, fun h2 => ?_⟩, fun h1 => ?_⟩
  · rw [ng (by
      have := of_decide_eq_true h3
      simp only [goodW, Bool.and_eq_false_iff, decide_eq_false_iff_not]
      omega)]
    rfl
  · rw [h1, h2, Bool.and_self, eq_comm, Bool.and_eq_true, decide_eq_true_eq] at ad
    have h3 := of_decide_eq_false h3
    have l13 : w.length ≤ 13 := by omega
    have ii : intSD [.str w] = some (.int ((NumText.digitsVal (tl w) : Nat) : Int), false) := by
      show (if w.length ≤ 640 then (PySem.intText? w).map fun n => (D.int n, false) else none) = _
      rw [if_pos (by omega), good_int ad.1 ad.2 (by omega)]
      rfl
    have gw : goodW w = !(decide (1 < w.length) && ((tl w).head? == some 48)) := by
      simp only [goodW, ad.1, ad.2, l13, decide_true, Bool.true_and]
    refine ⟨fun h4 => ⟨fun h5 => ?_, fun h5 => ?_⟩, fun h4 => ?_⟩
    · rw [sz] at h4
      have h5 : 1 < w.length := by
        have := of_decide_eq_true h5
        omega
      rw [ng (by rw [gw, h4, decide_eq_true h5]; rfl)]
      rfl
    · have h5 : ¬ 1 < w.length := by
        have := of_decide_eq_false h5
        omega
      have e : numS w = some (NumText.digitsVal (tl w)) := if_pos (by rw [gw, decide_eq_false h5]; rfl)
      simp only [fdA, List.map_cons, List.map_nil, List.length_cons, List.length_nil, List.cons_append, List.nil_append, List.replicate_succ, List.replicate_zero, Nat.zero_add, Nat.reduceAdd, Nat.reduceSub, Nat.sub_self, if_true, if_false, Bool.false_eq_true, Bool.not_true, Bool.not_false, reduceCtorEq, ite_true, ite_false, List.getElem?_cons_zero, List.getElem?_cons_succ, List.set_cons_zero, List.set_cons_succ, LEN, Nat.reduceLeDiff, Option.map_some, fvA, List.length_map, List.length_set, decide_true, decide_false, fhA, List.mem_cons, List.not_mem_nil, or_false, or_true, Nat.reduceEqDiff, Nat.succ_ne_self, fxA, fwA, fyA, and_true, true_and, imp_self, true_imp_iff, false_imp_iff, implies_true, fzA, fzW, ii, e, optN]
    · rw [sz] at h4
      have e : numS w = some (NumText.digitsVal (tl w)) := if_pos (by rw [gw, h4, Bool.and_false]; rfl)
      simp only [fdA, List.map_cons, List.map_nil, List.length_cons, List.length_nil, List.cons_append, List.nil_append, List.replicate_succ, List.replicate_zero, Nat.zero_add, Nat.reduceAdd, Nat.reduceSub, Nat.sub_self, if_true, if_false, Bool.false_eq_true, Bool.not_true, Bool.not_false, reduceCtorEq, ite_true, ite_false, List.getElem?_cons_zero, List.getElem?_cons_succ, List.set_cons_zero, List.set_cons_succ, LEN, Nat.reduceLeDiff, Option.map_some, fvA, List.length_map, List.length_set, decide_true, decide_false, fhA, List.mem_cons, List.not_mem_nil, or_false, or_true, Nat.reduceEqDiff, Nat.succ_ne_self, fxA, fwA, fyA, and_true, true_and, imp_self, true_imp_iff, false_imp_iff, implies_true, fzA, fzW, ii, e, optN]
  · rw [h1, h2] at ad
    have e : goodW w = false := by
      unfold goodW
      rw [← Bool.and_assoc, ← ad]
      rfl
    rw [ng e]
    rfl
  · rw [h1] at ad
    have e : goodW w = false := by
      unfold goodW
      rw [← Bool.and_assoc, ← ad]
      rfl
    rw [ng e]
    rfl
/-! ### the law's own reading -/
end FD

/-! LG: parts of texts, numbers' texts. -/
namespace FD
open PySem PySem.Spec PyProof.Rows L2 TL
/-! ### parts of a text -/
abbrev sSp : Str := Str.ofString " "
theorem tl_sp : tl sSp = [32] := by decide +kernel
theorem joinL_len (S : List Nat) : ∀ ps : List (List Nat), (joinL S ps).length ≤ (ps.map List.length).sum + ps.length * S.length
  | [] => by simp [joinL]
  | [p] => by simp [joinL]
  | p :: q :: r => by
    have := joinL_len S (q :: r)
    show (p ++ (S ++ joinL S (q :: r))).length ≤ _
    rw [List.length_append, List.length_append, List.map_cons, List.sum_cons, List.length_cons (as := q :: r), Nat.succ_mul]
    omega
theorem joinL_mem {S : List Nat} {c : Nat} : ∀ {ps : List (List Nat)}, c ∈ joinL S ps → c ∈ S ∨ ∃ p ∈ ps, c ∈ p
  | [], h => by simp [joinL] at h
  | [p], h => .inr ⟨p, by simp, h⟩
  | p :: q :: r, h => by
    have h : c ∈ p ++ (S ++ joinL S (q :: r)) := h
    rcases List.mem_append.mp h with h | h
    · exact .inr ⟨p, by simp, h⟩
    · rcases List.mem_append.mp h with h | h
      · exact .inl h
      · rcases joinL_mem h with h | ⟨z, hz, h⟩
        · exact .inl h
        · exact .inr ⟨z, List.mem_cons_of_mem _ hz, h⟩
theorem v_split {x : Str} (h : x.length ≤ 1000000) : splitD (.str x) (.str sSp) = some (.lst ((Txt.split x sSp).map D.str), true) := if_pos ⟨by decide +kernel, h⟩
theorem app_len (a b : Str) : (a ++ b).length = a.length + b.length := by
  rw [len_tl, tl_append, List.length_append, ← len_tl, ← len_tl]
theorem v_addS {a b : Str} (h : a.length + b.length ≤ 1000000) : addSD (.str a) (.str b) = some (.str (a ++ b), false) := if_pos h
def strI (n : Int) : Str := Str.ofString (toString n)
theorem tl_strI {n : Int} (h : 0 ≤ n) : tl (strI n) = numL n.toNat := by
  obtain ⟨k, rfl⟩ := Int.eq_ofNat_of_zero_le h
  exact tl_num k
theorem numL_head : ∀ n : Nat, 10 ≤ n → (numL n).head? ≠ some 48 := by
  intro n
  induction n using Nat.strongRecOn with
  | _ n ih =>
    intro h
    rw [numL_step h]
    by_cases q : n / 10 < 10
    · rw [numL_lt q]
      simp
      omega
    · have ne := numL_ne (n / 10)
      have := ih (n / 10) (by omega) (by omega)
      cases z : numL (n / 10) with
      | nil => exact absurd z ne
      | cons a r =>
        rw [z] at this
        simpa using this
theorem numS_strI {n : Int} (h0 : 0 ≤ n) (h1 : n ≤ 1000000000000) : numS (strI n) = some n.toNat ∧ (strI n).length ≤ 13 := by
  have e := tl_strI h0
  have l : (strI n).length = (numL n.toNat).length := by rw [len_tl, e]
  have l13 : (numL n.toNat).length ≤ 13 := numL_len (by decide) (by omega)
  have l0 : 0 < (numL n.toNat).length := List.length_pos_iff.mpr (numL_ne _)
  have g : goodW (strI n) = true := by
    unfold goodW
    rw [e, l, decide_eq_true l0, decide_eq_true l13, dig_all.mpr (numL_digits _), Bool.true_and, Bool.true_and, Bool.true_and, Bool.not_eq_true', Bool.and_eq_false_iff]
    by_cases q : n.toNat < 10
    · left
      rw [numL_lt q]
      rfl
    · right
      rw [beq_eq_false_iff_ne]
      exact numL_head _ (by omega)
  refine ⟨?_, by omega⟩
  unfold numS
  rw [if_pos g, e, numL_val]
theorem q_slT_lo {T : Type} {f g : EF T} {s : Sg T} {ra rg : Res} {z : Str} {i : Int} (hf : f s = some (.ok ra, s)) (pa : peek s.1 (hold ra) = some (.str z)) (hh : g s = some (.ok rg, s)) (ph : peek s.1 rg = some (.int i)) (hz : z.length ≤ 1000000) :
    slTF true false f g (conF .non) s = some (.ok (.d (.str (cutS z (some i) none))), s) := by
  simp [slTF, bindF, partF, partB, doneF, conF, q_peek_d, hf, hh, pa, ph, sliceSD, hz, resOf]
end FD

/-! LC: what is a system, by the program and by laws. -/
namespace FD
open PySem PySem.Spec PyProof.Rows L2
noncomputable def fb_is_step {T : Type} : SF T := (seqF (ifF (notF (ucallF FF_is_tuple_of (consA (varF 0) (consA (conF (.int 2)) nilA)))) (retF (conF (.bl false))) nxF)
  (seqF (asgF (tupG 2 (consG (nameG 1) (consG (nameG 2) nilG))) (varF 0))
  (retF (andF (ucallF FF_is_between (consA (varF 1) (consA (conF (.int 1)) (consA (conF (.int 1000000000000)) nilA)))) (ucallF FF_is_between (consA (varF 2) (consA (unF negD (conF (.int 1000000))) (consA (conF (.int 1000000)) nilA))))))))
noncomputable def FF_is_step {T : Type} : FF T := runF 3 1 fb_is_step
theorem len_is_step {T : Type} {ds : List D} {t : T} {o : FOut × T} (h : FF_is_step ds t = some o) : ds.length = 1 := runF_len h

noncomputable def fb_is_gains {T : Type} : SF T := (seqF (ifF (orF (notF (callF isiD (consA (varF 0) (consA (conF (.ty "tuple")) nilA)))) (binF gtD (callF lenD (consA (varF 0) nilA)) (conF (.int 5)))) (retF (conF (.bl false))) nxF)
  (seqF (ifF (notF (callF allD (consA (lcF [] [1] (seqI (varF 0)) (nameG 1) yesF (ucallF FF_is_step (consA (varF 1) nilA))) nilA))) (retF (conF (.bl false))) nxF)
  (seqF (ifF (notF (callF allD (consA (lcF [] [1, 2] (callI zipD (consA (varF 0) (consA (slF true false (varF 0) (conF (.int 1)) (conF .non)) nilA))) (tupG 2 (consG (nameG 1) (consG (nameG 2) nilG))) yesF (binF gtD (binF ixD (varF 1) (conF (.int 1))) (binF ixD (varF 2) (conF (.int 1))))) nilA))) (retF (conF (.bl false))) nxF)
  (retF (binF leD (ucallF FF_capacity_of_gains (consA (varF 0) nilA)) (conF (.int 1000000000000)))))))
noncomputable def FF_is_gains {T : Type} : FF T := runF 3 1 fb_is_gains
theorem len_is_gains {T : Type} {ds : List D} {t : T} {o : FOut × T} (h : FF_is_gains ds t = some o) : ds.length = 1 := runF_len h

noncomputable def fb_are_limits {T : Type} : SF T := (retF (andF (ucallF FF_is_between (consA (varF 1) (consA (conF (.int 0)) (consA (conF (.int 1000000000000)) nilA)))) (ucallF FF_is_between (consA (varF 0) (consA (conF (.int 0)) (consA (varF 1) nilA))))))
noncomputable def FF_are_limits {T : Type} : FF T := runF 2 2 fb_are_limits
theorem len_are_limits {T : Type} {ds : List D} {t : T} {o : FOut × T} (h : FF_are_limits ds t = some o) : ds.length = 2 := runF_len h

noncomputable def fb_is_group {T : Type} : SF T := (seqF (ifF (notF (ucallF FF_is_tuple_of (consA (varF 0) (consA (conF (.int 3)) nilA)))) (retF (conF (.bl false))) nxF)
  (seqF (asgF (tupG 3 (consG (nameG 2) (consG (nameG 3) (consG (nameG 4) nilG)))) (varF 0))
  (retF (andF (ucallF FF_is_choice (consA (varF 2) (consA (varF 1) nilA))) (andF (binF gtD (callF lenD (consA (varF 2) nilA)) (conF (.int 0))) (ucallF FF_are_limits (consA (varF 3) (consA (varF 4) nilA))))))))
noncomputable def FF_is_group {T : Type} : FF T := runF 5 2 fb_is_group
theorem len_is_group {T : Type} {ds : List D} {t : T} {o : FOut × T} (h : FF_is_group ds t = some o) : ds.length = 2 := runF_len h

noncomputable def fb_are_compatible {T : Type} : SF T := (seqF (setF 2 (lenAndF (varF 0) (varF 1)))
  (seqF (ifF (binF eqD (varF 2) (conF (.int 0))) (retF (conF (.bl true))) nxF)
  (retF (andF (binF neD (callF lenD (consA (varF 0) nilA)) (callF lenD (consA (varF 1) nilA))) (binF eqD (varF 2) (callF min2D (consA (callF lenD (consA (varF 0) nilA)) (consA (callF lenD (consA (varF 1) nilA)) nilA))))))))
noncomputable def FF_are_compatible {T : Type} : FF T := runF 3 2 fb_are_compatible
theorem len_are_compatible {T : Type} {ds : List D} {t : T} {o : FOut × T} (h : FF_are_compatible ds t = some o) : ds.length = 2 := runF_len h

noncomputable def fb_may_join {T : Type} : SF T := (seqF (ifF (notF (ucallF FF_is_group (consA (varF 0) (consA (varF 2) nilA)))) (retF (conF (.bl false))) nxF)
  (retF (callF allD (consA (lcF [0] [3] (seqI (varF 1)) (nameG 3) yesF (ucallF FF_are_compatible (consA (binF ixD (varF 0) (conF (.int 0))) (consA (binF ixD (varF 3) (conF (.int 0))) nilA)))) nilA))))
noncomputable def FF_may_join {T : Type} : FF T := runF 4 3 fb_may_join
theorem len_may_join {T : Type} {ds : List D} {t : T} {o : FOut × T} (h : FF_may_join ds t = some o) : ds.length = 3 := runF_len h

theorem ord_tupS {B k : Nat} {ds : List D} (h : ord B k (.tup ds) = true) : ∃ k', k = k' + 1 ∧ ordA B k' ds = true := by
  cases k with
  | zero => simp [ord] at h
  | succ k' => exact ⟨k', rfl, by unfold ord at h; exact h⟩
/-! ### gains -/
def stepB (d : D) : Bool := match d with
  | .tup [c, g] => btwD c 1 1000000000000 && btwD g (-1000000) 1000000
  | _ => false
theorem stepB_st {d : D} (h : stepB d = true) : ∃ s : Int × Int, d = stD s ∧ 1 ≤ s.1 ∧ s.1 ≤ 1000000000000 ∧ -1000000 ≤ s.2 ∧ s.2 ≤ 1000000 := by
  unfold stepB at h
  split at h
  · rename_i c g
    rw [Bool.and_eq_true] at h
    obtain ⟨i, rfl, a1, a2⟩ := btwD_int h.1
    obtain ⟨j, rfl, b1, b2⟩ := btwD_int h.2
    exact ⟨(i, j), rfl, a1, a2, b1, b2⟩
  · cases h
theorem is_step_eq {T : Type} {B k : Nat} {v : D} {t : T} (h : ord B k v = true) : FF_is_step [v] t = some (.ok (.bl (stepB v)) false, t) := by
  have e1 := tuple_of_eq (m := 2) (t := t) h
  rw [show (((2 : Nat) : Int)) = 2 from rfl] at e1
  refine w_eq ?_
  unfold FF_is_step fb_is_step
  cases e : tupLen v 2 with
  | false =>
    rw [e] at e1
    have : stepB v = false := by
      unfold stepB
      split
      · simp [tupLen] at e
      · rfl
    simp only [fdA, List.map_cons, List.map_nil, List.length_cons, List.length_nil, List.cons_append, List.nil_append, List.replicate_succ, List.replicate_zero, Nat.zero_add, Nat.reduceAdd, Nat.reduceSub, Nat.sub_self, if_true, if_false, Bool.false_eq_true, Bool.not_true, Bool.not_false, reduceCtorEq, ite_true, ite_false, List.getElem?_cons_zero, List.getElem?_cons_succ, List.set_cons_zero, List.set_cons_succ, LEN, Nat.reduceLeDiff, Option.map_some, fvA, List.length_map, List.length_set, decide_true, decide_false, fhA, List.mem_cons, List.not_mem_nil, or_false, or_true, Nat.reduceEqDiff, Nat.succ_ne_self, fxA, fwA, fyA, and_true, true_and, imp_self, true_imp_iff, false_imp_iff, implies_true, fzA, fzW, e1, this]
  | true =>
    rw [e] at e1
    cases v with
    | tup ds =>
      simp only [tupLen, decide_eq_true_eq] at e
      match ds, e with
      | [c, g], _ =>
        obtain ⟨k', rfl, h⟩ := ord_tupS h
        have b1 := between_eq (a := 1) (b := 1000000000000) (t := t) (ordA_iff.mp h c (by simp))
        have b2 := between_eq (a := -1000000) (b := 1000000) (t := t) (ordA_iff.mp h g (by simp))
        simp only [fdA, List.map_cons, List.map_nil, List.length_cons, List.length_nil, List.cons_append, List.nil_append, List.replicate_succ, List.replicate_zero, Nat.zero_add, Nat.reduceAdd, Nat.reduceSub, Nat.sub_self, if_true, if_false, Bool.false_eq_true, Bool.not_true, Bool.not_false, reduceCtorEq, ite_true, ite_false, List.getElem?_cons_zero, List.getElem?_cons_succ, List.set_cons_zero, List.set_cons_succ, LEN, Nat.reduceLeDiff, Option.map_some, fvA, List.length_map, List.length_set, decide_true, decide_false, fhA, List.mem_cons, List.not_mem_nil, or_false, or_true, Nat.reduceEqDiff, Nat.succ_ne_self, fxA, fwA, fyA, and_true, true_and, imp_self, true_imp_iff, false_imp_iff, implies_true, fzA, fzW, e1, b1, v_neg, b2, stepB]
        cases btwD c 1 1000000000000 <;> simp
    | _ => cases e
theorem steps_of : ∀ {ds : List D}, ds.all stepB = true → ∃ g : GC.Gs, ds = g.map stD ∧ ∀ s ∈ g, 1 ≤ s.1 ∧ s.1 ≤ 1000000000000 ∧ -1000000 ≤ s.2 ∧ s.2 ≤ 1000000
  | [], _ => ⟨[], rfl, by simp⟩
  | d :: ds, h => by
    rw [List.all_cons, Bool.and_eq_true] at h
    obtain ⟨s, rfl, hs⟩ := stepB_st h.1
    obtain ⟨g, rfl, hg⟩ := steps_of h.2
    exact ⟨s :: g, rfl, fun x m => by
      rcases List.mem_cons.mp m with rfl | m
      · exact hs
      · exact hg x m⟩
def gsOf : List D → GC.Gs
  | .tup [.int c, .int g] :: r => (c, g) :: gsOf r
  | _ :: r => gsOf r
  | [] => []
theorem gsOf_map : ∀ g : GC.Gs, gsOf (g.map stD) = g
  | [] => rfl
  | s :: g => by
    have := gsOf_map g
    simp only [List.map_cons, stD, gsOf]
    exact congrArg _ this
def fallB (g : GC.Gs) : Bool := (g.zip (g.drop 1)).all fun z => decide (z.2.2 < z.1.2)
def gainsB (v : D) : Bool := match v with
  | .tup ds => decide (ds.length ≤ 5) && (ds.all stepB && (fallB (gsOf ds) && decide (GC.cap (gsOf ds) ≤ 1000000000000)))
  | _ => false
theorem is_gains_eq {T : Type} {B k : Nat} {v : D} {t : T} (h : ord B k v = true) : FF_is_gains [v] t = some (.ok (.bl (gainsB v)) false, t) := by
  refine w_eq ?_
  unfold FF_is_gains fb_is_gains
  cases v with
  | tup ds =>
    obtain ⟨k', rfl, h⟩ := ord_tupS h
    by_cases l : ds.length ≤ 5
    · have nl : decide ((5 : Int) < (ds.length : Nat)) = false := by
        rw [decide_eq_false_iff_not]
        omega
      simp only [fdA, List.map_cons, List.map_nil, List.length_cons, List.length_nil, List.cons_append, List.nil_append, List.replicate_succ, List.replicate_zero, Nat.zero_add, Nat.reduceAdd, Nat.reduceSub, Nat.sub_self, if_true, if_false, Bool.false_eq_true, Bool.not_true, Bool.not_false, reduceCtorEq, ite_true, ite_false, List.getElem?_cons_zero, List.getElem?_cons_succ, List.set_cons_zero, List.set_cons_succ, LEN, Nat.reduceLeDiff, Option.map_some, fvA, List.length_map, List.length_set, decide_true, decide_false, fhA, List.mem_cons, List.not_mem_nil, or_false, or_true, Nat.reduceEqDiff, Nat.succ_ne_self, fxA, fwA, fyA, and_true, true_and, imp_self, true_imp_iff, false_imp_iff, implies_true, fzA, fzW, nl]
      refine ⟨by omega, w_map ds id (by simp) (fun d => .bl (stepB d)) (fun d m => ?_) ?_⟩
      · simp only [fdA, List.map_cons, List.map_nil, List.length_cons, List.length_nil, List.cons_append, List.nil_append, List.replicate_succ, List.replicate_zero, Nat.zero_add, Nat.reduceAdd, Nat.reduceSub, Nat.sub_self, if_true, if_false, Bool.false_eq_true, Bool.not_true, Bool.not_false, reduceCtorEq, ite_true, ite_false, List.getElem?_cons_zero, List.getElem?_cons_succ, List.set_cons_zero, List.set_cons_succ, LEN, Nat.reduceLeDiff, Option.map_some, fvA, List.length_map, List.length_set, decide_true, decide_false, fhA, List.mem_cons, List.not_mem_nil, or_false, or_true, Nat.reduceEqDiff, Nat.succ_ne_self, fxA, fwA, fyA, and_true, true_and, imp_self, true_imp_iff, false_imp_iff, implies_true, fzA, fzW, id_eq, is_step_eq (t := t) (ordA_iff.mp h d m)]
      · cases q : ds.all stepB with
        | false => simp only [fdA, List.map_cons, List.map_nil, List.length_cons, List.length_nil, List.cons_append, List.nil_append, List.replicate_succ, List.replicate_zero, Nat.zero_add, Nat.reduceAdd, Nat.reduceSub, Nat.sub_self, if_true, if_false, Bool.false_eq_true, Bool.not_true, Bool.not_false, reduceCtorEq, ite_true, ite_false, List.getElem?_cons_zero, List.getElem?_cons_succ, List.set_cons_zero, List.set_cons_succ, LEN, Nat.reduceLeDiff, Option.map_some, fvA, List.length_map, List.length_set, decide_true, decide_false, fhA, List.mem_cons, List.not_mem_nil, or_false, or_true, Nat.reduceEqDiff, Nat.succ_ne_self, fxA, fwA, fyA, and_true, true_and, imp_self, true_imp_iff, false_imp_iff, implies_true, fzA, fzW, v_allM, q, gainsB, Bool.and_false, Bool.false_and]
        | true =>
          obtain ⟨g, rfl, hg⟩ := steps_of q
          rw [List.length_map] at l
          have cg := capgains_eq (g := g) (t := t) (by omega)
          unfold gD at cg
          have cut : cutL (g.map stD) (some 1) none = (g.drop 1).map stD := by
            have := cut_from (g.map stD) 1
            rw [← List.map_drop] at this
            exact this
          simp only [fdA, List.map_cons, List.map_nil, List.length_cons, List.length_nil, List.cons_append, List.nil_append, List.replicate_succ, List.replicate_zero, Nat.zero_add, Nat.reduceAdd, Nat.reduceSub, Nat.sub_self, if_true, if_false, Bool.false_eq_true, Bool.not_true, Bool.not_false, reduceCtorEq, ite_true, ite_false, List.getElem?_cons_zero, List.getElem?_cons_succ, List.set_cons_zero, List.set_cons_succ, LEN, Nat.reduceLeDiff, Option.map_some, fvA, List.length_map, List.length_set, decide_true, decide_false, fhA, List.mem_cons, List.not_mem_nil, or_false, or_true, Nat.reduceEqDiff, Nat.succ_ne_self, fxA, fwA, fyA, and_true, true_and, imp_self, true_imp_iff, false_imp_iff, implies_true, fzA, fzW, v_allM, q, cut, v_zip_t, pairD_map]
          refine ⟨by simp; omega, w_map (g.zip (g.drop 1)) (fun z => .tup [stD z.1, stD z.2]) rfl (fun z => .bl (decide (z.2.2 < z.1.2))) (fun z _ => ?_) ?_⟩
          · have i1 : ∀ s : Int × Int, ixD (stD s) (.int 1) = some (.int s.2, false) := fun s => v_ix_t at1
            simp only [fdA, List.map_cons, List.map_nil, List.length_cons, List.length_nil, List.cons_append, List.nil_append, List.replicate_succ, List.replicate_zero, Nat.zero_add, Nat.reduceAdd, Nat.reduceSub, Nat.sub_self, if_true, if_false, Bool.false_eq_true, Bool.not_true, Bool.not_false, reduceCtorEq, ite_true, ite_false, List.getElem?_cons_zero, List.getElem?_cons_succ, List.set_cons_zero, List.set_cons_succ, LEN, Nat.reduceLeDiff, Option.map_some, fvA, List.length_map, List.length_set, decide_true, decide_false, fhA, List.mem_cons, List.not_mem_nil, or_false, or_true, Nat.reduceEqDiff, Nat.succ_ne_self, fxA, fwA, fyA, and_true, true_and, imp_self, true_imp_iff, false_imp_iff, implies_true, fzA, fzW, i1]
          · have q2 : gainsB (.tup (g.map stD)) = (fallB g && decide (GC.cap g ≤ 1000000000000)) := by
              have : decide ((g.map stD).length ≤ 5) = true := by simpa using l
              simp only [gainsB, this, q, gsOf_map, Bool.true_and]
            rw [q2]
            unfold fallB
            cases z : (g.zip (g.drop 1)).all fun z => decide (z.2.2 < z.1.2) with
            | false => simp only [fdA, List.map_cons, List.map_nil, List.length_cons, List.length_nil, List.cons_append, List.nil_append, List.replicate_succ, List.replicate_zero, Nat.zero_add, Nat.reduceAdd, Nat.reduceSub, Nat.sub_self, if_true, if_false, Bool.false_eq_true, Bool.not_true, Bool.not_false, reduceCtorEq, ite_true, ite_false, List.getElem?_cons_zero, List.getElem?_cons_succ, List.set_cons_zero, List.set_cons_succ, LEN, Nat.reduceLeDiff, Option.map_some, fvA, List.length_map, List.length_set, decide_true, decide_false, fhA, List.mem_cons, List.not_mem_nil, or_false, or_true, Nat.reduceEqDiff, Nat.succ_ne_self, fxA, fwA, fyA, and_true, true_and, imp_self, true_imp_iff, false_imp_iff, implies_true, fzA, fzW, v_allM, z, Bool.false_and]
            | true => simp only [fdA, List.map_cons, List.map_nil, List.length_cons, List.length_nil, List.cons_append, List.nil_append, List.replicate_succ, List.replicate_zero, Nat.zero_add, Nat.reduceAdd, Nat.reduceSub, Nat.sub_self, if_true, if_false, Bool.false_eq_true, Bool.not_true, Bool.not_false, reduceCtorEq, ite_true, ite_false, List.getElem?_cons_zero, List.getElem?_cons_succ, List.set_cons_zero, List.set_cons_succ, LEN, Nat.reduceLeDiff, Option.map_some, fvA, List.length_map, List.length_set, decide_true, decide_false, fhA, List.mem_cons, List.not_mem_nil, or_false, or_true, Nat.reduceEqDiff, Nat.succ_ne_self, fxA, fwA, fyA, and_true, true_and, imp_self, true_imp_iff, false_imp_iff, implies_true, fzA, fzW, v_allM, z, cg, Bool.true_and]
    · have nl : decide ((5 : Int) < (ds.length : Nat)) = true := by
        rw [decide_eq_true_eq]
        omega
      simp only [fdA, List.map_cons, List.map_nil, List.length_cons, List.length_nil, List.cons_append, List.nil_append, List.replicate_succ, List.replicate_zero, Nat.zero_add, Nat.reduceAdd, Nat.reduceSub, Nat.sub_self, if_true, if_false, Bool.false_eq_true, Bool.not_true, Bool.not_false, reduceCtorEq, ite_true, ite_false, List.getElem?_cons_zero, List.getElem?_cons_succ, List.set_cons_zero, List.set_cons_succ, LEN, Nat.reduceLeDiff, Option.map_some, fvA, List.length_map, List.length_set, decide_true, decide_false, fhA, List.mem_cons, List.not_mem_nil, or_false, or_true, Nat.reduceEqDiff, Nat.succ_ne_self, fxA, fwA, fyA, and_true, true_and, imp_self, true_imp_iff, false_imp_iff, implies_true, fzA, fzW, nl, gainsB, l, decide_false, Bool.false_and]
  | non => simp only [fdA, List.map_cons, List.map_nil, List.length_cons, List.length_nil, List.cons_append, List.nil_append, List.replicate_succ, List.replicate_zero, Nat.zero_add, Nat.reduceAdd, Nat.reduceSub, Nat.sub_self, if_true, if_false, Bool.false_eq_true, Bool.not_true, Bool.not_false, reduceCtorEq, ite_true, ite_false, List.getElem?_cons_zero, List.getElem?_cons_succ, List.set_cons_zero, List.set_cons_succ, LEN, Nat.reduceLeDiff, Option.map_some, fvA, List.length_map, List.length_set, decide_true, decide_false, fhA, List.mem_cons, List.not_mem_nil, or_false, or_true, Nat.reduceEqDiff, Nat.succ_ne_self, fxA, fwA, fyA, and_true, true_and, imp_self, true_imp_iff, false_imp_iff, implies_true, fzA, fzW, gainsB]
  | bl x => simp only [fdA, List.map_cons, List.map_nil, List.length_cons, List.length_nil, List.cons_append, List.nil_append, List.replicate_succ, List.replicate_zero, Nat.zero_add, Nat.reduceAdd, Nat.reduceSub, Nat.sub_self, if_true, if_false, Bool.false_eq_true, Bool.not_true, Bool.not_false, reduceCtorEq, ite_true, ite_false, List.getElem?_cons_zero, List.getElem?_cons_succ, List.set_cons_zero, List.set_cons_succ, LEN, Nat.reduceLeDiff, Option.map_some, fvA, List.length_map, List.length_set, decide_true, decide_false, fhA, List.mem_cons, List.not_mem_nil, or_false, or_true, Nat.reduceEqDiff, Nat.succ_ne_self, fxA, fwA, fyA, and_true, true_and, imp_self, true_imp_iff, false_imp_iff, implies_true, fzA, fzW, gainsB]
  | str x => simp only [fdA, List.map_cons, List.map_nil, List.length_cons, List.length_nil, List.cons_append, List.nil_append, List.replicate_succ, List.replicate_zero, Nat.zero_add, Nat.reduceAdd, Nat.reduceSub, Nat.sub_self, if_true, if_false, Bool.false_eq_true, Bool.not_true, Bool.not_false, reduceCtorEq, ite_true, ite_false, List.getElem?_cons_zero, List.getElem?_cons_succ, List.set_cons_zero, List.set_cons_succ, LEN, Nat.reduceLeDiff, Option.map_some, fvA, List.length_map, List.length_set, decide_true, decide_false, fhA, List.mem_cons, List.not_mem_nil, or_false, or_true, Nat.reduceEqDiff, Nat.succ_ne_self, fxA, fwA, fyA, and_true, true_and, imp_self, true_imp_iff, false_imp_iff, implies_true, fzA, fzW, gainsB]
  | lst x => simp only [fdA, List.map_cons, List.map_nil, List.length_cons, List.length_nil, List.cons_append, List.nil_append, List.replicate_succ, List.replicate_zero, Nat.zero_add, Nat.reduceAdd, Nat.reduceSub, Nat.sub_self, if_true, if_false, Bool.false_eq_true, Bool.not_true, Bool.not_false, reduceCtorEq, ite_true, ite_false, List.getElem?_cons_zero, List.getElem?_cons_succ, List.set_cons_zero, List.set_cons_succ, LEN, Nat.reduceLeDiff, Option.map_some, fvA, List.length_map, List.length_set, decide_true, decide_false, fhA, List.mem_cons, List.not_mem_nil, or_false, or_true, Nat.reduceEqDiff, Nat.succ_ne_self, fxA, fwA, fyA, and_true, true_and, imp_self, true_imp_iff, false_imp_iff, implies_true, fzA, fzW, gainsB]
  | dct x => simp only [fdA, List.map_cons, List.map_nil, List.length_cons, List.length_nil, List.cons_append, List.nil_append, List.replicate_succ, List.replicate_zero, Nat.zero_add, Nat.reduceAdd, Nat.reduceSub, Nat.sub_self, if_true, if_false, Bool.false_eq_true, Bool.not_true, Bool.not_false, reduceCtorEq, ite_true, ite_false, List.getElem?_cons_zero, List.getElem?_cons_succ, List.set_cons_zero, List.set_cons_succ, LEN, Nat.reduceLeDiff, Option.map_some, fvA, List.length_map, List.length_set, decide_true, decide_false, fhA, List.mem_cons, List.not_mem_nil, or_false, or_true, Nat.reduceEqDiff, Nat.succ_ne_self, fxA, fwA, fyA, and_true, true_and, imp_self, true_imp_iff, false_imp_iff, implies_true, fzA, fzW, gainsB]
  | int i => simp only [fdA, List.map_cons, List.map_nil, List.length_cons, List.length_nil, List.cons_append, List.nil_append, List.replicate_succ, List.replicate_zero, Nat.zero_add, Nat.reduceAdd, Nat.reduceSub, Nat.sub_self, if_true, if_false, Bool.false_eq_true, Bool.not_true, Bool.not_false, reduceCtorEq, ite_true, ite_false, List.getElem?_cons_zero, List.getElem?_cons_succ, List.set_cons_zero, List.set_cons_succ, LEN, Nat.reduceLeDiff, Option.map_some, fvA, List.length_map, List.length_set, decide_true, decide_false, fhA, List.mem_cons, List.not_mem_nil, or_false, or_true, Nat.reduceEqDiff, Nat.succ_ne_self, fxA, fwA, fyA, and_true, true_and, imp_self, true_imp_iff, false_imp_iff, implies_true, fzA, fzW, gainsB]
  | obj c fs => simp [ord] at h
  | ty c => simp [ord] at h
  | hnd c => simp [ord] at h
  | fn c => simp [ord] at h
/-! ### groups -/
def limB (a b : D) : Bool := match b with
  | .int n => btwD (.int n) 0 1000000000000 && btwD a 0 n
  | _ => false
theorem are_limits_eq {T : Type} {B k : Nat} {a b : D} {t : T} (ha : ord B k a = true) (hb : ord B k b = true) : FF_are_limits [a, b] t = some (.ok (.bl (limB a b)) false, t) := by
  refine w_eq ?_
  unfold FF_are_limits fb_are_limits
  have e1 := between_eq (a := 0) (b := 1000000000000) (t := t) hb
  cases b with
  | int n =>
    have e2 := between_eq (a := 0) (b := n) (t := t) ha
    simp only [fdA, List.map_cons, List.map_nil, List.length_cons, List.length_nil, List.cons_append, List.nil_append, List.replicate_succ, List.replicate_zero, Nat.zero_add, Nat.reduceAdd, Nat.reduceSub, Nat.sub_self, if_true, if_false, Bool.false_eq_true, Bool.not_true, Bool.not_false, reduceCtorEq, ite_true, ite_false, List.getElem?_cons_zero, List.getElem?_cons_succ, List.set_cons_zero, List.set_cons_succ, LEN, Nat.reduceLeDiff, Option.map_some, fvA, List.length_map, List.length_set, decide_true, decide_false, fhA, List.mem_cons, List.not_mem_nil, or_false, or_true, Nat.reduceEqDiff, Nat.succ_ne_self, fxA, fwA, fyA, and_true, true_and, imp_self, true_imp_iff, false_imp_iff, implies_true, fzA, fzW, e1, e2, limB]
    cases btwD (.int n) 0 1000000000000 <;> simp
  | non => simp only [fdA, List.map_cons, List.map_nil, List.length_cons, List.length_nil, List.cons_append, List.nil_append, List.replicate_succ, List.replicate_zero, Nat.zero_add, Nat.reduceAdd, Nat.reduceSub, Nat.sub_self, if_true, if_false, Bool.false_eq_true, Bool.not_true, Bool.not_false, reduceCtorEq, ite_true, ite_false, List.getElem?_cons_zero, List.getElem?_cons_succ, List.set_cons_zero, List.set_cons_succ, LEN, Nat.reduceLeDiff, Option.map_some, fvA, List.length_map, List.length_set, decide_true, decide_false, fhA, List.mem_cons, List.not_mem_nil, or_false, or_true, Nat.reduceEqDiff, Nat.succ_ne_self, fxA, fwA, fyA, and_true, true_and, imp_self, true_imp_iff, false_imp_iff, implies_true, fzA, fzW, e1, btwD, limB]
  | bl x => simp only [fdA, List.map_cons, List.map_nil, List.length_cons, List.length_nil, List.cons_append, List.nil_append, List.replicate_succ, List.replicate_zero, Nat.zero_add, Nat.reduceAdd, Nat.reduceSub, Nat.sub_self, if_true, if_false, Bool.false_eq_true, Bool.not_true, Bool.not_false, reduceCtorEq, ite_true, ite_false, List.getElem?_cons_zero, List.getElem?_cons_succ, List.set_cons_zero, List.set_cons_succ, LEN, Nat.reduceLeDiff, Option.map_some, fvA, List.length_map, List.length_set, decide_true, decide_false, fhA, List.mem_cons, List.not_mem_nil, or_false, or_true, Nat.reduceEqDiff, Nat.succ_ne_self, fxA, fwA, fyA, and_true, true_and, imp_self, true_imp_iff, false_imp_iff, implies_true, fzA, fzW, e1, btwD, limB]
  | str x => simp only [fdA, List.map_cons, List.map_nil, List.length_cons, List.length_nil, List.cons_append, List.nil_append, List.replicate_succ, List.replicate_zero, Nat.zero_add, Nat.reduceAdd, Nat.reduceSub, Nat.sub_self, if_true, if_false, Bool.false_eq_true, Bool.not_true, Bool.not_false, reduceCtorEq, ite_true, ite_false, List.getElem?_cons_zero, List.getElem?_cons_succ, List.set_cons_zero, List.set_cons_succ, LEN, Nat.reduceLeDiff, Option.map_some, fvA, List.length_map, List.length_set, decide_true, decide_false, fhA, List.mem_cons, List.not_mem_nil, or_false, or_true, Nat.reduceEqDiff, Nat.succ_ne_self, fxA, fwA, fyA, and_true, true_and, imp_self, true_imp_iff, false_imp_iff, implies_true, fzA, fzW, e1, btwD, limB]
  | lst x => simp only [fdA, List.map_cons, List.map_nil, List.length_cons, List.length_nil, List.cons_append, List.nil_append, List.replicate_succ, List.replicate_zero, Nat.zero_add, Nat.reduceAdd, Nat.reduceSub, Nat.sub_self, if_true, if_false, Bool.false_eq_true, Bool.not_true, Bool.not_false, reduceCtorEq, ite_true, ite_false, List.getElem?_cons_zero, List.getElem?_cons_succ, List.set_cons_zero, List.set_cons_succ, LEN, Nat.reduceLeDiff, Option.map_some, fvA, List.length_map, List.length_set, decide_true, decide_false, fhA, List.mem_cons, List.not_mem_nil, or_false, or_true, Nat.reduceEqDiff, Nat.succ_ne_self, fxA, fwA, fyA, and_true, true_and, imp_self, true_imp_iff, false_imp_iff, implies_true, fzA, fzW, e1, btwD, limB]
  | dct x => simp only [fdA, List.map_cons, List.map_nil, List.length_cons, List.length_nil, List.cons_append, List.nil_append, List.replicate_succ, List.replicate_zero, Nat.zero_add, Nat.reduceAdd, Nat.reduceSub, Nat.sub_self, if_true, if_false, Bool.false_eq_true, Bool.not_true, Bool.not_false, reduceCtorEq, ite_true, ite_false, List.getElem?_cons_zero, List.getElem?_cons_succ, List.set_cons_zero, List.set_cons_succ, LEN, Nat.reduceLeDiff, Option.map_some, fvA, List.length_map, List.length_set, decide_true, decide_false, fhA, List.mem_cons, List.not_mem_nil, or_false, or_true, Nat.reduceEqDiff, Nat.succ_ne_self, fxA, fwA, fyA, and_true, true_and, imp_self, true_imp_iff, false_imp_iff, implies_true, fzA, fzW, e1, btwD, limB]
  | tup x => simp only [fdA, List.map_cons, List.map_nil, List.length_cons, List.length_nil, List.cons_append, List.nil_append, List.replicate_succ, List.replicate_zero, Nat.zero_add, Nat.reduceAdd, Nat.reduceSub, Nat.sub_self, if_true, if_false, Bool.false_eq_true, Bool.not_true, Bool.not_false, reduceCtorEq, ite_true, ite_false, List.getElem?_cons_zero, List.getElem?_cons_succ, List.set_cons_zero, List.set_cons_succ, LEN, Nat.reduceLeDiff, Option.map_some, fvA, List.length_map, List.length_set, decide_true, decide_false, fhA, List.mem_cons, List.not_mem_nil, or_false, or_true, Nat.reduceEqDiff, Nat.succ_ne_self, fxA, fwA, fyA, and_true, true_and, imp_self, true_imp_iff, false_imp_iff, implies_true, fzA, fzW, e1, btwD, limB]
  | obj c fs => simp [ord] at hb
  | ty c => simp [ord] at hb
  | hnd c => simp [ord] at hb
  | fn c => simp [ord] at hb
def someT : D → Bool
  | .tup (_ :: _) => true
  | _ => false
def groupB (n : Nat) (v : D) : Bool := match v with
  | .tup [m, a, b] => choiceB n m && (someT m && limB a b)
  | _ => false
def msO (v : D) : List Int := match v with
  | .tup [m, _, _] => (intsV m).getD []
  | _ => []
theorem groupB_of {n : Nat} {v : D} (h : groupB n v = true) : ∃ ms lo hi, v = .tup [tpI ms, .int lo, .int hi] ∧ ms ≠ [] ∧ ms.Pairwise (· < ·) ∧ (∀ x ∈ ms, 0 ≤ x ∧ x < n) ∧ msO v = ms := by
  unfold groupB at h
  split at h
  · rename_i m a b
    simp only [Bool.and_eq_true] at h
    obtain ⟨h1, h2, h3⟩ := h
    obtain ⟨ms, rfl, p1, p2⟩ := choice_ints h1
    unfold limB at h3
    split at h3
    · rename_i hi
      rw [Bool.and_eq_true] at h3
      obtain ⟨lo, rfl, _⟩ := btwD_int h3.2
      refine ⟨ms, lo, hi, rfl, ?_, p1, p2, by simp [msO, intsV, tpI, intsD_map]⟩
      rintro rfl
      simp [someT, tpI] at h2
    · cases h3
  · cases h
theorem is_group_eq {T : Type} {B k n : Nat} {v : D} {t : T} (h : ord B k v = true) : FF_is_group [v, .int (n : Int)] t = some (.ok (.bl (groupB n v)) false, t) := by
  have e1 := tuple_of_eq (m := 3) (t := t) h
  rw [show (((3 : Nat) : Int)) = 3 from rfl] at e1
  refine w_eq ?_
  unfold FF_is_group fb_is_group
  cases e : tupLen v 3 with
  | false =>
    rw [e] at e1
    have : groupB n v = false := by
      unfold groupB
      split
      · simp [tupLen] at e
      · rfl
    simp only [fdA, List.map_cons, List.map_nil, List.length_cons, List.length_nil, List.cons_append, List.nil_append, List.replicate_succ, List.replicate_zero, Nat.zero_add, Nat.reduceAdd, Nat.reduceSub, Nat.sub_self, if_true, if_false, Bool.false_eq_true, Bool.not_true, Bool.not_false, reduceCtorEq, ite_true, ite_false, List.getElem?_cons_zero, List.getElem?_cons_succ, List.set_cons_zero, List.set_cons_succ, LEN, Nat.reduceLeDiff, Option.map_some, fvA, List.length_map, List.length_set, decide_true, decide_false, fhA, List.mem_cons, List.not_mem_nil, or_false, or_true, Nat.reduceEqDiff, Nat.succ_ne_self, fxA, fwA, fyA, and_true, true_and, imp_self, true_imp_iff, false_imp_iff, implies_true, fzA, fzW, e1, this]
  | true =>
    rw [e] at e1
    cases v with
    | tup ds =>
      simp only [tupLen, decide_eq_true_eq] at e
      match ds, e with
      | [m, a, b], _ =>
        obtain ⟨k', rfl, h⟩ := ord_tupS h
        have c1 := choice_eq (m := n) (t := t) (ordA_iff.mp h m (by simp))
        have l1 := are_limits_eq (t := t) (ordA_iff.mp h a (by simp)) (ordA_iff.mp h b (by simp))
        cases q : choiceB n m with
        | false =>
          rw [q] at c1
          simp only [fdA, List.map_cons, List.map_nil, List.length_cons, List.length_nil, List.cons_append, List.nil_append, List.replicate_succ, List.replicate_zero, Nat.zero_add, Nat.reduceAdd, Nat.reduceSub, Nat.sub_self, if_true, if_false, Bool.false_eq_true, Bool.not_true, Bool.not_false, reduceCtorEq, ite_true, ite_false, List.getElem?_cons_zero, List.getElem?_cons_succ, List.set_cons_zero, List.set_cons_succ, LEN, Nat.reduceLeDiff, Option.map_some, fvA, List.length_map, List.length_set, decide_true, decide_false, fhA, List.mem_cons, List.not_mem_nil, or_false, or_true, Nat.reduceEqDiff, Nat.succ_ne_self, fxA, fwA, fyA, and_true, true_and, imp_self, true_imp_iff, false_imp_iff, implies_true, fzA, fzW, e1, c1, groupB, q, Bool.false_and]
        | true =>
          rw [q] at c1
          obtain ⟨ms, rfl, _⟩ := choice_ints q
          have sm : someT (tpI ms) = decide ((0 : Int) < (ms.length : Nat)) := by
            cases ms with
            | nil => rfl
            | cons x r =>
              refine (decide_eq_true ?_).symm
              rw [List.length_cons]
              omega
          simp only [tpI] at *
          simp only [fdA, List.map_cons, List.map_nil, List.length_cons, List.length_nil, List.cons_append, List.nil_append, List.replicate_succ, List.replicate_zero, Nat.zero_add, Nat.reduceAdd, Nat.reduceSub, Nat.sub_self, if_true, if_false, Bool.false_eq_true, Bool.not_true, Bool.not_false, reduceCtorEq, ite_true, ite_false, List.getElem?_cons_zero, List.getElem?_cons_succ, List.set_cons_zero, List.set_cons_succ, LEN, Nat.reduceLeDiff, Option.map_some, fvA, List.length_map, List.length_set, decide_true, decide_false, fhA, List.mem_cons, List.not_mem_nil, or_false, or_true, Nat.reduceEqDiff, Nat.succ_ne_self, fxA, fwA, fyA, and_true, true_and, imp_self, true_imp_iff, false_imp_iff, implies_true, fzA, fzW, e1, c1, l1, groupB, q, sm, List.length_map, Bool.true_and]
          cases decide ((0 : Int) < (ms.length : Nat)) <;> simp
    | _ => cases e
/-! ### groups beside one another -/
def compat (as bs : List Int) : Bool := decide (comL as bs = 0) || (decide (as.length ≠ bs.length) && decide (comL as bs = min as.length bs.length))
theorem lenAnd_eq {T : Type} {as bs : List Int} {r : List Sl} {t : T} (ha : as.length ≤ 4000) (hb : bs.length ≤ 4000) :
    lenAndF (T := T) (varF 0) (varF 1) (.v (.tup (as.map D.int)) :: .v (.tup (bs.map D.int)) :: r, t) = some (.ok (.d (.int (comL as bs : Nat))), (.v (.tup (as.map D.int)) :: .v (.tup (bs.map D.int)) :: r, t)) := by
  simp [lenAndF, bindF, varF, andK, setOkD, intsD_map, ha, hb, doneF, andG, peek, hold, lenAndD, dnO, resOf]
theorem are_compatible_eq {T : Type} {as bs : List Int} {t : T} (ha : as.length ≤ 4000) (hb : bs.length ≤ 4000) : FF_are_compatible [tpI as, tpI bs] t = some (.ok (.bl (compat as bs)) false, t) := by
  refine w_eq ?_
  unfold FF_are_compatible fb_are_compatible tpI
  simp only [fdA, List.map_cons, List.map_nil, List.length_cons, List.length_nil, List.cons_append, List.nil_append, List.replicate_succ, List.replicate_zero, Nat.zero_add, Nat.reduceAdd, Nat.reduceSub, Nat.sub_self, if_true, if_false, Bool.false_eq_true, Bool.not_true, Bool.not_false, reduceCtorEq, ite_true, ite_false, List.getElem?_cons_zero, List.getElem?_cons_succ, List.set_cons_zero, List.set_cons_succ, LEN, Nat.reduceLeDiff, Option.map_some, fvA, List.length_map, List.length_set, decide_true, decide_false, fhA, List.mem_cons, List.not_mem_nil, or_false, or_true, Nat.reduceEqDiff, Nat.succ_ne_self, fxA, fwA, fyA, and_true, true_and, imp_self, true_imp_iff, false_imp_iff, implies_true, fzA, fzW, lenAnd_eq ha hb, v_min2]
  refine ⟨fun q => ?_, fun q => ⟨fun z => ?_, fun z => ?_⟩⟩
  · have q : (comL as bs : Int) = 0 := of_decide_eq_true q
    have : compat as bs = true := by
      simp only [compat, Bool.or_eq_true, decide_eq_true_eq]
      omega
    rw [this]
  · have q : ¬ (comL as bs : Int) = 0 := of_decide_eq_false q
    have z : ¬ (as.length : Int) = bs.length := by simpa using z
    have : compat as bs = decide ((comL as bs : Int) = min (as.length : Int) bs.length) := by
      rw [Bool.eq_iff_iff]
      simp only [compat, Bool.or_eq_true, Bool.and_eq_true, decide_eq_true_eq]
      omega
    rw [this]
    all_goals exact ⟨rfl, trivial⟩
  · have q : ¬ (comL as bs : Int) = 0 := of_decide_eq_false q
    have z : (as.length : Int) = bs.length := by simpa using z
    have : compat as bs = false := by
      simp only [compat, Bool.or_eq_false_iff, Bool.and_eq_false_iff, decide_eq_false_iff_not]
      omega
    rw [this]
def mayB (n : Nat) (pre : List D) (v : D) : Bool := groupB n v && pre.all fun g => compat (msO v) (msO g)
theorem gr_parts {n : Nat} {v : D} (h : groupB n v = true) : ixD v (.int 0) = some (tpI (msO v), false) ∧ (msO v).length ≤ n := by
  obtain ⟨ms, lo, hi, rfl, _, p1, p2, e⟩ := groupB_of h
  rw [e]
  exact ⟨v_ix_t at0, asc_len p1 p2⟩
theorem may_join_eq {T : Type} {B k n : Nat} {v : D} {pre : List D} {t : T} (h : ord B k v = true) (hn : n ≤ 6) (hp : ∀ g ∈ pre, groupB n g = true) (hl : pre.length ≤ 100) :
    FF_may_join [v, .tup pre, .int (n : Int)] t = some (.ok (.bl (mayB n pre v)) false, t) := by
  have e1 := is_group_eq (n := n) (t := t) h
  refine w_eq ?_
  unfold FF_may_join fb_may_join
  cases q : groupB n v with
  | false =>
    rw [q] at e1
    simp only [fdA, List.map_cons, List.map_nil, List.length_cons, List.length_nil, List.cons_append, List.nil_append, List.replicate_succ, List.replicate_zero, Nat.zero_add, Nat.reduceAdd, Nat.reduceSub, Nat.sub_self, if_true, if_false, Bool.false_eq_true, Bool.not_true, Bool.not_false, reduceCtorEq, ite_true, ite_false, List.getElem?_cons_zero, List.getElem?_cons_succ, List.set_cons_zero, List.set_cons_succ, LEN, Nat.reduceLeDiff, Option.map_some, fvA, List.length_map, List.length_set, decide_true, decide_false, fhA, List.mem_cons, List.not_mem_nil, or_false, or_true, Nat.reduceEqDiff, Nat.succ_ne_self, fxA, fwA, fyA, and_true, true_and, imp_self, true_imp_iff, false_imp_iff, implies_true, fzA, fzW, e1, mayB, q, Bool.false_and]
  | true =>
    rw [q] at e1
    simp only [fdA, List.map_cons, List.map_nil, List.length_cons, List.length_nil, List.cons_append, List.nil_append, List.replicate_succ, List.replicate_zero, Nat.zero_add, Nat.reduceAdd, Nat.reduceSub, Nat.sub_self, if_true, if_false, Bool.false_eq_true, Bool.not_true, Bool.not_false, reduceCtorEq, ite_true, ite_false, List.getElem?_cons_zero, List.getElem?_cons_succ, List.set_cons_zero, List.set_cons_succ, LEN, Nat.reduceLeDiff, Option.map_some, fvA, List.length_map, List.length_set, decide_true, decide_false, fhA, List.mem_cons, List.not_mem_nil, or_false, or_true, Nat.reduceEqDiff, Nat.succ_ne_self, fxA, fwA, fyA, and_true, true_and, imp_self, true_imp_iff, false_imp_iff, implies_true, fzA, fzW, e1]
    refine ⟨by omega, w_map pre id (by simp) (fun g => .bl (compat (msO v) (msO g))) (fun g m => ?_) ?_⟩
    · have a := gr_parts q
      have b := gr_parts (hp g m)
      simp only [fdA, List.map_cons, List.map_nil, List.length_cons, List.length_nil, List.cons_append, List.nil_append, List.replicate_succ, List.replicate_zero, Nat.zero_add, Nat.reduceAdd, Nat.reduceSub, Nat.sub_self, if_true, if_false, Bool.false_eq_true, Bool.not_true, Bool.not_false, reduceCtorEq, ite_true, ite_false, List.getElem?_cons_zero, List.getElem?_cons_succ, List.set_cons_zero, List.set_cons_succ, LEN, Nat.reduceLeDiff, Option.map_some, fvA, List.length_map, List.length_set, decide_true, decide_false, fhA, List.mem_cons, List.not_mem_nil, or_false, or_true, Nat.reduceEqDiff, Nat.succ_ne_self, fxA, fwA, fyA, and_true, true_and, imp_self, true_imp_iff, false_imp_iff, implies_true, fzA, fzW, id_eq, a.1, b.1, are_compatible_eq (as := msO v) (bs := msO g) (t := t) (by omega) (by omega)]
    · simp only [fdA, List.map_cons, List.map_nil, List.length_cons, List.length_nil, List.cons_append, List.nil_append, List.replicate_succ, List.replicate_zero, Nat.zero_add, Nat.reduceAdd, Nat.reduceSub, Nat.sub_self, if_true, if_false, Bool.false_eq_true, Bool.not_true, Bool.not_false, reduceCtorEq, ite_true, ite_false, List.getElem?_cons_zero, List.getElem?_cons_succ, List.set_cons_zero, List.set_cons_succ, LEN, Nat.reduceLeDiff, Option.map_some, fvA, List.length_map, List.length_set, decide_true, decide_false, fhA, List.mem_cons, List.not_mem_nil, or_false, or_true, Nat.reduceEqDiff, Nat.succ_ne_self, fxA, fwA, fyA, and_true, true_and, imp_self, true_imp_iff, false_imp_iff, implies_true, fzA, fzW, v_allM, mayB, q, Bool.true_and]
/-! ### the first reason -/
theorem enum_at {ds : List D} {i : Nat} {d : D} (h : (enumL 0 ds)[i]? = some d) : ∃ v, ds[i]? = some v ∧ d = .tup [.int (i : Int), v] := by
  have hl := (List.getElem?_eq_some_iff.mp h).1
  rw [enumL_len] at hl
  have q : ds[i]? = some ds[i] := List.getElem?_eq_getElem hl
  have := enumL_get (k := 0) q
  rw [h] at this
  cases this
  exact ⟨_, q, by simp⟩
end FD

/-! LH: texts of systems. -/
namespace FD
open PySem PySem.Spec PyProof.Rows L2 TL
noncomputable def fb_item_line {T : Type} : SF T := (retF (ucallF FF_spaced (consA (lstF (consA (conF (.str (Str.ofString "item"))) (starA (lcF [] [1, 2] (seqI (varF 0)) (tupG 2 (consG (nameG 1) (consG (nameG 2) nilG))) yesF (jsF [(unF fmtD (varF 1)), (conF (.str (Str.ofString "*"))), (unF fmtD (varF 2))] Str.empty)) nilA))) nilA)))
noncomputable def FF_item_line {T : Type} : FF T := runF 3 1 fb_item_line
theorem len_item_line {T : Type} {ds : List D} {t : T} {o : FOut × T} (h : FF_item_line ds t = some o) : ds.length = 1 := runF_len h

noncomputable def fb_group_line {T : Type} : SF T := (seqF (asgF (tupG 3 (consG (nameG 1) (consG (nameG 2) (consG (nameG 3) nilG)))) (varF 0))
  (retF (ucallF FF_spaced (consA (lstF (consA (conF (.str (Str.ofString "group"))) (consA (mth1F joinD (conF (.str (Str.ofString ","))) (lcF [] [4] (seqI (varF 1)) (nameG 4) yesF (callF strD (consA (varF 4) nilA)))) (consA (varF 2) (consA (varF 3) nilA))))) nilA))))
noncomputable def FF_group_line {T : Type} : FF T := runF 5 1 fb_group_line
theorem len_group_line {T : Type} {ds : List D} {t : T} {o : FOut × T} (h : FF_group_line ds t = some o) : ds.length = 1 := runF_len h

noncomputable def fb_format_system {T : Type} : SF T := (seqF (asgF (tupG 2 (consG (nameG 1) (consG (nameG 2) nilG))) (varF 0))
  (seqF (setF 3 (binF addD (lcF [] [4] (seqI (varF 1)) (nameG 4) yesF (ucallF FF_item_line (consA (varF 4) nilA))) (lcF [] [5] (seqI (varF 2)) (nameG 5) yesF (ucallF FF_group_line (consA (varF 5) nilA)))))
  (retF (mth1F joinD (conF (.str (Str.ofString ""))) (lcF [] [6] (seqI (varF 3)) (nameG 6) yesF (binF addSD (varF 6) (conF (.str (Str.ofString "\n")))))))))
noncomputable def FF_format_system {T : Type} : FF T := runF 7 1 fb_format_system
theorem len_format_system {T : Type} {ds : List D} {t : T} {o : FOut × T} (h : FF_format_system ds t = some o) : ds.length = 1 := runF_len h

noncomputable def fb_signed_in {T : Type} : SF T := (seqF (ifF (notF (mth1F startsD (varF 0) (conF (.str (Str.ofString "-"))))) (retF (ucallF FF_number_in (consA (varF 0) nilA))) nxF)
  (seqF (setF 1 (ucallF FF_number_in (consA (slTF true false (varF 0) (conF (.int 1)) (conF .non)) nilA)))
  (retF (branchF (orF (binF isD (varF 1) (conF .non)) (binF eqD (varF 1) (conF (.int 0)))) (conF .non) (unF negD (varF 1))))))
noncomputable def FF_signed_in {T : Type} : FF T := runF 2 1 fb_signed_in
theorem len_signed_in {T : Type} {ds : List D} {t : T} {o : FOut × T} (h : FF_signed_in ds t = some o) : ds.length = 1 := runF_len h

noncomputable def fb_numbers_in {T : Type} : SF T := (seqF (setF 1 (lcF [] [2] (seqI (mth1F splitD (varF 0) (conF (.str (Str.ofString ","))))) (nameG 2) yesF (ucallF FF_number_in (consA (varF 2) nilA))))
  (retF (branchF (binF inD (conF .non) (varF 1)) (conF .non) (callF tupleD (consA (varF 1) nilA)))))
noncomputable def FF_numbers_in {T : Type} : FF T := runF 3 1 fb_numbers_in
theorem len_numbers_in {T : Type} {ds : List D} {t : T} {o : FOut × T} (h : FF_numbers_in ds t = some o) : ds.length = 1 := runF_len h

noncomputable def fb_step_in {T : Type} : SF T := (seqF (asgF (tupG 3 (consG (nameG 1) (consG (nameG 2) (consG (nameG 3) nilG)))) (mth1F txPartD (varF 0) (conF (.str (Str.ofString "*")))))
  (seqF (setF 4 (tupF (consA (ucallF FF_number_in (consA (varF 1) nilA)) (consA (ucallF FF_signed_in (consA (varF 3) nilA)) nilA))))
  (retF (branchF (binF inD (conF .non) (varF 4)) (conF .non) (varF 4)))))
noncomputable def FF_step_in {T : Type} : FF T := runF 5 1 fb_step_in
theorem len_step_in {T : Type} {ds : List D} {t : T} {o : FOut × T} (h : FF_step_in ds t = some o) : ds.length = 1 := runF_len h

noncomputable def fb_steps_in {T : Type} : SF T := (seqF (setF 1 (lcF [] [2] (seqI (varF 0)) (nameG 2) yesF (ucallF FF_step_in (consA (varF 2) nilA))))
  (retF (branchF (binF inD (conF .non) (varF 1)) (conF .non) (callF tupleD (consA (varF 1) nilA)))))
noncomputable def FF_steps_in {T : Type} : FF T := runF 3 1 fb_steps_in
theorem len_steps_in {T : Type} {ds : List D} {t : T} {o : FOut × T} (h : FF_steps_in ds t = some o) : ds.length = 1 := runF_len h

noncomputable def fb_group_in {T : Type} : SF T := (seqF (ifF (binF neD (callF lenD (consA (varF 0) nilA)) (conF (.int 3))) (retF (conF .non)) nxF)
  (seqF (asgF (lstG 3 (consG (nameG 1) (consG (nameG 2) (consG (nameG 3) nilG)))) (varF 0))
  (seqF (setF 4 (tupF (consA (ucallF FF_numbers_in (consA (varF 1) nilA)) (consA (ucallF FF_number_in (consA (varF 2) nilA)) (consA (ucallF FF_number_in (consA (varF 3) nilA)) nilA)))))
  (retF (branchF (binF inD (conF .non) (varF 4)) (conF .non) (varF 4))))))
noncomputable def FF_group_in {T : Type} : FF T := runF 5 1 fb_group_in
theorem len_group_in {T : Type} {ds : List D} {t : T} {o : FOut × T} (h : FF_group_in ds t = some o) : ds.length = 1 := runF_len h

noncomputable def fb_with_line {T : Type} : SF T := (seqF (asgF (tupG 2 (consG (nameG 2) (consG (nameG 3) nilG))) (varF 0))
  (seqF (starF 4 5 (mth1F splitD (varF 1) (conF (.str (Str.ofString " ")))))
  (seqF (ifF (andF (binF eqD (varF 4) (conF (.str (Str.ofString "item")))) (andF (binF eqD (callF lenD (consA (varF 3) nilA)) (conF (.int 0))) (binF ltD (callF lenD (consA (varF 2) nilA)) (conF (.int 6))))) (seqF (setF 6 (ucallF FF_steps_in (consA (varF 5) nilA)))
  (ifF (ucallF FF_is_gains (consA (varF 6) nilA)) (retF (tupF (consA (tupF (starA (varF 2) (consA (varF 6) nilA))) (consA (varF 3) nilA)))) nxF)) nxF)
  (seqF (ifF (andF (binF eqD (varF 4) (conF (.str (Str.ofString "group")))) (binF ltD (callF lenD (consA (varF 3) nilA)) (conF (.int 8)))) (seqF (setF 7 (ucallF FF_group_in (consA (varF 5) nilA)))
  (ifF (ucallF FF_may_join (consA (varF 7) (consA (varF 3) (consA (callF lenD (consA (varF 2) nilA)) nilA)))) (retF (tupF (consA (varF 2) (consA (tupF (starA (varF 3) (consA (varF 7) nilA))) nilA)))) nxF)) nxF)
  (retF (conF .non))))))
noncomputable def FF_with_line {T : Type} : FF T := runF 8 2 fb_with_line
theorem len_with_line {T : Type} {ds : List D} {t : T} {o : FOut × T} (h : FF_with_line ds t = some o) : ds.length = 2 := runF_len h

noncomputable def fb_parse_system {T : Type} : SF T := (seqF (ifF (notF (callF isiD (consA (varF 0) (consA (conF (.ty "str")) nilA)))) (raiseF "BadText" "line" (conF .non)) nxF)
  (seqF (setF 1 (mth1F splitD (varF 0) (conF (.str (Str.ofString "\n")))))
  (seqF (setF 2 (tupF (consA (tupF nilA) (consA (tupF nilA) nilA))))
  (seqF (forF (callI enumD (consA (slF false true (varF 1) (conF .non) (unF negD (conF (.int 1)))) nilA)) (tupG 2 (consG (nameG 3) (consG (nameG 4) nilG))) (seqF (setF 2 (ucallF FF_with_line (consA (varF 2) (consA (varF 4) nilA))))
  (ifF (binF isD (varF 2) (conF .non)) (raiseF "BadText" "line" (varF 3)) nxF)))
  (seqF (ifF (orF (binF neD (binF ixD (varF 1) (unF negD (conF (.int 1)))) (conF (.str (Str.ofString "")))) (binF eqD (callF lenD (consA (varF 1) nilA)) (conF (.int 1)))) (raiseF "BadText" "line" (binF subD (callF lenD (consA (varF 1) nilA)) (conF (.int 1)))) nxF)
  (retF (varF 2)))))))
noncomputable def FF_parse_system {T : Type} : FF T := runF 5 1 fb_parse_system
theorem len_parse_system {T : Type} {ds : List D} {t : T} {o : FOut × T} (h : FF_parse_system ds t = some o) : ds.length = 1 := runF_len h

/-! ### joining -/
theorem sum_len {b : Nat} : ∀ {ys : List Str}, (∀ y ∈ ys, y.length ≤ b) → (ys.map (·.length)).sum ≤ b * ys.length
  | [], _ => by simp
  | y :: r, h => by
    have a := h y (by simp)
    have c := sum_len (ys := r) fun z m => h z (List.mem_cons_of_mem _ m)
    rw [List.map_cons, List.sum_cons, List.length_cons, Nat.mul_succ]
    omega
theorem joinT_len {sep : Str} {b k : Nat} {ys : List Str} (h : ∀ y ∈ ys, y.length ≤ b) (hs : sep.length ≤ k) : (Txt.join sep ys).length ≤ (b + k) * ys.length := by
  have h1 := joinL_len (tl sep) (ys.map tl)
  rw [join_eq, len_tl, tl_join]
  rw [List.map_map, List.length_map] at h1
  have e2 : ys.map (List.length ∘ tl) = ys.map (·.length) := List.map_congr_left fun a _ => (len_tl a).symm
  rw [e2, ← len_tl sep] at h1
  have h2 := sum_len h
  have h3 : ys.length * sep.length ≤ ys.length * k := Nat.mul_le_mul_left _ hs
  rw [Nat.add_mul, Nat.mul_comm k]
  omega
theorem v_joinS {sep : Str} {ys : List Str} {b : Nat} (h : ∀ y ∈ ys, y.length ≤ b) (hs : sep.length ≤ 1) (hz : (b + 1) * ys.length ≤ 1000000) : joinD (.str sep) (.lst (ys.map D.str)) = some (.str (Txt.join sep ys), false) := by
  show (strsD (ys.map D.str)).bind (joinG sep) = _
  rw [strsD_map]
  have h2 := sum_len h
  have h3 : ys.length * sep.length ≤ ys.length * 1 := Nat.mul_le_mul_left _ hs
  rw [Nat.add_mul] at hz
  show (if _ then _ else _) = _
  rw [if_pos (by omega)]
/-! ### numbers with signs -/
theorem strI_neg {n : Int} (h : n < 0) : tl (strI n) = 45 :: numL n.natAbs := by
  obtain ⟨k, rfl⟩ : ∃ k : Nat, n = Int.negSucc k := ⟨n.natAbs - 1, by omega⟩
  have e : (toString (Int.negSucc k) : String) = "-" ++ toString ((k + 1 : Nat) : Int) := rfl
  show tl (Str.ofString (toString (Int.negSucc k))) = _
  rw [e, tl_ofString, String.toList_append, List.map_append]
  have := tl_num (k + 1)
  rw [tl_ofString] at this
  rw [this]
  rfl
theorem strI_len {n : Int} (h : n.natAbs ≤ 1000000000000) : (strI n).length ≤ 14 := by
  rw [len_tl]
  by_cases q : n < 0
  · rw [strI_neg q]
    have := numL_len (n := n.natAbs) (k := 13) (by decide) (by omega)
    rw [List.length_cons]
    omega
  · rw [tl_strI (by omega)]
    have := numL_len (n := n.toNat) (k := 13) (by decide) (by omega)
    omega
theorem strI_signs {n : Int} : ∀ c ∈ tl (strI n), c = 45 ∨ 48 ≤ c ∧ c ≤ 57 := fun c m => by
  by_cases q : n < 0
  · rw [strI_neg q] at m
    rcases List.mem_cons.mp m with m | m
    · exact .inl m
    · exact .inr (numL_digits _ c m)
  · rw [tl_strI (by omega)] at m
    exact .inr (numL_digits _ c m)
theorem v_strI2 {n : Int} (h : n.natAbs ≤ 1000000000000) : strD [.int n] = some (.str (strI n), false) := if_pos (by omega)
theorem v_fmtI {n : Int} (h : n.natAbs ≤ 1000000000000) : fmtD (.int n) = some (.str (strI n), false) := if_pos (by omega)
/-! ### a system's text -/
abbrev sStar : Str := Str.ofString "*"
abbrev sComma : Str := Str.ofString ","
abbrev sLine : Str := Str.ofString "\n"
abbrev sItem : Str := Str.ofString "item"
abbrev sGroup : Str := Str.ofString "group"
def stepT (s : Int × Int) : Str := strI s.1 ++ sStar ++ strI s.2
def itemW (g : GC.Gs) : List Str := sItem :: g.map stepT
def itemT (g : GC.Gs) : Str := Txt.join sSp (itemW g)
def groupW (g : Grp) : List Str := [sGroup, Txt.join sComma (g.ms.map strI), strI g.lo, strI g.hi]
def groupT (g : Grp) : Str := Txt.join sSp (groupW g)
def linesT (s : Sys) : List Str := s.items.map itemT ++ s.groups.map groupT
def textT (s : Sys) : Str := Txt.join (Str.ofString "") ((linesT s).map (· ++ sLine))
def okG (g : GC.Gs) : Prop := g.length ≤ 5 ∧ ∀ x ∈ g, 0 ≤ x.1 ∧ x.1 ≤ 1000000000000 ∧ x.2.natAbs ≤ 1000000
def okR (g : Grp) : Prop := g.ms.length ≤ 6 ∧ (∀ x ∈ g.ms, 0 ≤ x ∧ x ≤ 100) ∧ 0 ≤ g.lo ∧ g.lo ≤ 1000000000000 ∧ 0 ≤ g.hi ∧ g.hi ≤ 1000000000000
theorem stepT_len {s : Int × Int} (h : 0 ≤ s.1 ∧ s.1 ≤ 1000000000000 ∧ s.2.natAbs ≤ 1000000) : (stepT s).length ≤ 30 := by
  have a := strI_len (n := s.1) (by omega)
  have b := strI_len (n := s.2) (by omega)
  unfold stepT
  rw [app_len, app_len, show sStar.length = 1 by decide +kernel]
  omega
theorem itemW_len {g : GC.Gs} (h : okG g) : ∀ w ∈ itemW g, w.length ≤ 30 := fun w m => by
  rcases List.mem_cons.mp m with rfl | m
  · decide +kernel
  · obtain ⟨s, ms, rfl⟩ := List.mem_map.mp m
    exact stepT_len (h.2 s ms)
theorem itemT_len {g : GC.Gs} (h : okG g) : (itemT g).length ≤ 1000 := by
  have := joinT_len (itemW_len h) (show sSp.length ≤ 1 by decide +kernel)
  have l : (itemW g).length ≤ 6 := by
    unfold itemW
    have := h.1
    rw [List.length_cons, List.length_map]
    omega
  unfold itemT
  omega
theorem groupW_len {g : Grp} (h : okR g) : ∀ w ∈ groupW g, w.length ≤ 100 := fun w m => by
  unfold groupW at m
  simp only [List.mem_cons, List.not_mem_nil, or_false] at m
  obtain ⟨h1, h2, h3, h4, h5, h6⟩ := h
  rcases m with rfl | rfl | rfl | rfl
  · decide +kernel
  · have := joinT_len (ys := g.ms.map strI) (sep := sComma) (b := 14) (k := 1) (fun y my => by
      obtain ⟨n, mn, rfl⟩ := List.mem_map.mp my
      have := h2 n mn
      exact strI_len (by omega)) (by decide +kernel)
    rw [List.length_map] at this
    omega
  · have := strI_len (n := g.lo) (by omega)
    omega
  · have := strI_len (n := g.hi) (by omega)
    omega
theorem groupT_len {g : Grp} (h : okR g) : (groupT g).length ≤ 1000 := by
  have := joinT_len (groupW_len h) (show sSp.length ≤ 1 by decide +kernel)
  have l : (groupW g).length = 4 := rfl
  unfold groupT
  omega
end FD

/-! LI: a system printed. -/
namespace FD
open PySem PySem.Spec PyProof.Rows L2 TL
theorem spaced_eq {T A : Type} {t : T} {b : Nat} (as : List A) (mk : A → D) (tx : A → Str) (h : ∀ a ∈ as, strD [mk a] = some (.str (tx a), false)) (hl : ∀ a ∈ as, (tx a).length ≤ b) (hz : (b + 1) * as.length ≤ 100000) :
    FF_spaced [.lst (as.map mk)] t = some (.ok (.str (Txt.join sSp (as.map tx))) false, t) := by
  have jn := v_joinS (sep := sSp) (ys := as.map tx) (b := b) (fun y m => by
    obtain ⟨a, ma, rfl⟩ := List.mem_map.mp m
    exact hl a ma) (by decide +kernel) (by rw [List.length_map]; omega)
  rw [List.map_map] at jn
  change joinD (.str sSp) (.lst (as.map fun a => .str (tx a))) = _ at jn
  have al : as.length ≤ 100000 := by
    have : 1 * as.length ≤ (b + 1) * as.length := Nat.mul_le_mul_right _ (by omega)
    omega
  refine w_eq ?_
  unfold FF_spaced fb_spaced
  simp only [fdA, List.map_cons, List.map_nil, List.length_cons, List.length_nil, List.cons_append, List.nil_append, List.replicate_succ, List.replicate_zero, Nat.zero_add, Nat.reduceAdd, Nat.reduceSub, Nat.sub_self, if_true, if_false, Bool.false_eq_true, Bool.not_true, Bool.not_false, reduceCtorEq, ite_true, ite_false, List.getElem?_cons_zero, List.getElem?_cons_succ, List.set_cons_zero, List.set_cons_succ, LEN, Nat.reduceLeDiff, Option.map_some, fvA, List.length_map, List.length_set, decide_true, decide_false, fhA, List.mem_cons, List.not_mem_nil, or_false, or_true, Nat.reduceEqDiff, Nat.succ_ne_self, fxA, fwA, fyA, and_true, true_and, imp_self, true_imp_iff, false_imp_iff, implies_true, fzA, fzW, q_mth1, q_mthK, q_mthG]
  refine ⟨by omega, w_map as mk rfl (fun a => .str (tx a)) (fun a m => ?_) ?_⟩
  · simp only [fdA, List.map_cons, List.map_nil, List.length_cons, List.length_nil, List.cons_append, List.nil_append, List.replicate_succ, List.replicate_zero, Nat.zero_add, Nat.reduceAdd, Nat.reduceSub, Nat.sub_self, if_true, if_false, Bool.false_eq_true, Bool.not_true, Bool.not_false, reduceCtorEq, ite_true, ite_false, List.getElem?_cons_zero, List.getElem?_cons_succ, List.set_cons_zero, List.set_cons_succ, LEN, Nat.reduceLeDiff, Option.map_some, fvA, List.length_map, List.length_set, decide_true, decide_false, fhA, List.mem_cons, List.not_mem_nil, or_false, or_true, Nat.reduceEqDiff, Nat.succ_ne_self, fxA, fwA, fyA, and_true, true_and, imp_self, true_imp_iff, false_imp_iff, implies_true, fzA, fzW, h a m]
  · simp only [fdA, List.map_cons, List.map_nil, List.length_cons, List.length_nil, List.cons_append, List.nil_append, List.replicate_succ, List.replicate_zero, Nat.zero_add, Nat.reduceAdd, Nat.reduceSub, Nat.sub_self, if_true, if_false, Bool.false_eq_true, Bool.not_true, Bool.not_false, reduceCtorEq, ite_true, ite_false, List.getElem?_cons_zero, List.getElem?_cons_succ, List.set_cons_zero, List.set_cons_succ, LEN, Nat.reduceLeDiff, Option.map_some, fvA, List.length_map, List.length_set, decide_true, decide_false, fhA, List.mem_cons, List.not_mem_nil, or_false, or_true, Nat.reduceEqDiff, Nat.succ_ne_self, fxA, fwA, fyA, and_true, true_and, imp_self, true_imp_iff, false_imp_iff, implies_true, fzA, fzW, jn]
theorem emp_app {x : Str} : Str.empty ++ x = x := ext_tl (by rw [tl_append]; rfl)
theorem js_step {T : Type} {k : Str → EF T} {acc y : Str} {s : Sg T} {b c : Nat} (h1 : acc.length ≤ b) (h2 : y.length ≤ c) (h : b + c ≤ 1000000) : jsG k acc s (some (.str y)) = k (acc ++ y) s := q_jsG (by rw [app_len]; omega)
theorem item_line_eq {T : Type} {t : T} {g : GC.Gs} (h : okG g) : FF_item_line [gD g] t = some (.ok (.str (itemT g)) false, t) := by
  have e := spaced_eq (T := T) (t := t) (b := 30) (itemW g) D.str id (fun a m => rfl) (itemW_len h) (by
    have := h.1
    unfold itemW
    rw [List.length_cons, List.length_map]
    omega)
  rw [List.map_id] at e
  have gl := h.1
  refine w_eq ?_
  unfold FF_item_line fb_item_line gD
  simp only [fdA, List.map_cons, List.map_nil, List.length_cons, List.length_nil, List.cons_append, List.nil_append, List.replicate_succ, List.replicate_zero, Nat.zero_add, Nat.reduceAdd, Nat.reduceSub, Nat.sub_self, if_true, if_false, Bool.false_eq_true, Bool.not_true, Bool.not_false, reduceCtorEq, ite_true, ite_false, List.getElem?_cons_zero, List.getElem?_cons_succ, List.set_cons_zero, List.set_cons_succ, LEN, Nat.reduceLeDiff, Option.map_some, fvA, List.length_map, List.length_set, decide_true, decide_false, fhA, List.mem_cons, List.not_mem_nil, or_false, or_true, Nat.reduceEqDiff, Nat.succ_ne_self, fxA, fwA, fyA, and_true, true_and, imp_self, true_imp_iff, false_imp_iff, implies_true, fzA, fzW, fzP, q_jsC, q_jsN, q_jsK]
  refine ⟨by omega, w_map g stD rfl (fun s => .str (stepT s)) (fun s m => ?_) ?_⟩
  · have b := h.2 s m
    have l1 := strI_len (n := s.1) (by omega)
    have l2 := strI_len (n := s.2) (by omega)
    have j1 : ∀ (k : Str → EF T) (u : Sg T), jsG k Str.empty u (some (.str (strI s.1))) = k (strI s.1) u := fun k u => by
      have := js_step (k := k) (s := u) (show Str.empty.length ≤ 0 by decide) l1 (by decide)
      rwa [emp_app] at this
    have j2 : ∀ (k : Str → EF T) (u : Sg T), jsG k (strI s.1) u (some (.str sStar)) = k (strI s.1 ++ sStar) u := fun k u => js_step l1 (show sStar.length ≤ 1 by decide +kernel) (by decide)
    have j3 : ∀ (k : Str → EF T) (u : Sg T), jsG k (strI s.1 ++ sStar) u (some (.str (strI s.2))) = k (strI s.1 ++ sStar ++ strI s.2) u := fun k u => js_step (b := 15) (by rw [app_len, show sStar.length = 1 by decide +kernel]; omega) l2 (by decide)
    unfold stD
    simp only [fdA, List.map_cons, List.map_nil, List.length_cons, List.length_nil, List.cons_append, List.nil_append, List.replicate_succ, List.replicate_zero, Nat.zero_add, Nat.reduceAdd, Nat.reduceSub, Nat.sub_self, if_true, if_false, Bool.false_eq_true, Bool.not_true, Bool.not_false, reduceCtorEq, ite_true, ite_false, List.getElem?_cons_zero, List.getElem?_cons_succ, List.set_cons_zero, List.set_cons_succ, LEN, Nat.reduceLeDiff, Option.map_some, fvA, List.length_map, List.length_set, decide_true, decide_false, fhA, List.mem_cons, List.not_mem_nil, or_false, or_true, Nat.reduceEqDiff, Nat.succ_ne_self, fxA, fwA, fyA, and_true, true_and, imp_self, true_imp_iff, false_imp_iff, implies_true, fzA, fzW, q_jsC, q_jsN, q_jsK, v_fmtI (n := s.1) (by omega), v_fmtI (n := s.2) (by omega), j1, j2, j3]
    rfl
  · have gd := give_data (τ := [Sl.v (D.tup (List.map stD g)), Sl.no, Sl.no]) (g.map fun s => .str (stepT s)) []
    simp only [fdA, List.map_cons, List.map_nil, List.length_cons, List.length_nil, List.cons_append, List.nil_append, List.replicate_succ, List.replicate_zero, Nat.zero_add, Nat.reduceAdd, Nat.reduceSub, Nat.sub_self, if_true, if_false, Bool.false_eq_true, Bool.not_true, Bool.not_false, reduceCtorEq, ite_true, ite_false, List.getElem?_cons_zero, List.getElem?_cons_succ, List.set_cons_zero, List.set_cons_succ, LEN, Nat.reduceLeDiff, Option.map_some, fvA, List.length_map, List.length_set, decide_true, decide_false, fhA, List.mem_cons, List.not_mem_nil, or_false, or_true, Nat.reduceEqDiff, Nat.succ_ne_self, fxA, fwA, fyA, and_true, true_and, imp_self, true_imp_iff, false_imp_iff, implies_true, fzA, fzW, gd]
    rw [List.append_nil, if_pos (by rw [List.length_map]; omega)]
    rw [show D.str (Str.ofString "item") :: (g.map fun s => .str (stepT s)) = (itemW g).map D.str by unfold itemW; rw [List.map_cons, List.map_map]; rfl]
    simp only [fdA, List.map_cons, List.map_nil, List.length_cons, List.length_nil, List.cons_append, List.nil_append, List.replicate_succ, List.replicate_zero, Nat.zero_add, Nat.reduceAdd, Nat.reduceSub, Nat.sub_self, if_true, if_false, Bool.false_eq_true, Bool.not_true, Bool.not_false, reduceCtorEq, ite_true, ite_false, List.getElem?_cons_zero, List.getElem?_cons_succ, List.set_cons_zero, List.set_cons_succ, LEN, Nat.reduceLeDiff, Option.map_some, fvA, List.length_map, List.length_set, decide_true, decide_false, fhA, List.mem_cons, List.not_mem_nil, or_false, or_true, Nat.reduceEqDiff, Nat.succ_ne_self, fxA, fwA, fyA, and_true, true_and, imp_self, true_imp_iff, false_imp_iff, implies_true, fzA, fzW, e]
    rfl
theorem group_line_eq {T : Type} {t : T} {g : Grp} (h : okR g) : FF_group_line [grD g] t = some (.ok (.str (groupT g)) false, t) := by
  obtain ⟨h1, h2, h3, h4, h5, h6⟩ := id h
  have gl := groupW_len h
  let tx : D → Str := fun d => match d with
    | .str x => x
    | .int i => strI i
    | _ => Str.empty
  have e := spaced_eq (T := T) (t := t) (b := 100) [.str sGroup, .str (Txt.join sComma (g.ms.map strI)), .int g.lo, .int g.hi] id tx (fun a m => by
    simp only [List.mem_cons, List.not_mem_nil, or_false] at m
    rcases m with rfl | rfl | rfl | rfl
    · rfl
    · rfl
    · exact v_strI2 (by omega)
    · exact v_strI2 (by omega)) (fun a m => gl _ (by
    simp only [List.mem_cons, List.not_mem_nil, or_false] at m
    unfold groupW
    rcases m with rfl | rfl | rfl | rfl <;> simp [tx])) (by simp)
  rw [List.map_id] at e
  have jn := v_joinS (sep := sComma) (ys := g.ms.map strI) (b := 14) (fun y my => by
      obtain ⟨n, mn, rfl⟩ := List.mem_map.mp my
      have := h2 n mn
      exact strI_len (by omega)) (by decide +kernel) (by rw [List.length_map]; omega)
  rw [List.map_map] at jn
  change joinD (.str sComma) (.lst (g.ms.map fun n => .str (strI n))) = _ at jn
  refine w_eq ?_
  unfold FF_group_line fb_group_line grD tpI
  simp only [fdA, List.map_cons, List.map_nil, List.length_cons, List.length_nil, List.cons_append, List.nil_append, List.replicate_succ, List.replicate_zero, Nat.zero_add, Nat.reduceAdd, Nat.reduceSub, Nat.sub_self, if_true, if_false, Bool.false_eq_true, Bool.not_true, Bool.not_false, reduceCtorEq, ite_true, ite_false, List.getElem?_cons_zero, List.getElem?_cons_succ, List.set_cons_zero, List.set_cons_succ, LEN, Nat.reduceLeDiff, Option.map_some, fvA, List.length_map, List.length_set, decide_true, decide_false, fhA, List.mem_cons, List.not_mem_nil, or_false, or_true, Nat.reduceEqDiff, Nat.succ_ne_self, fxA, fwA, fyA, and_true, true_and, imp_self, true_imp_iff, false_imp_iff, implies_true, fzA, fzW, q_mth1, q_mthK, q_mthG]
  refine ⟨by omega, w_map g.ms D.int rfl (fun n => .str (strI n)) (fun n m => ?_) ?_⟩
  · have := h2 n m
    simp only [fdA, List.map_cons, List.map_nil, List.length_cons, List.length_nil, List.cons_append, List.nil_append, List.replicate_succ, List.replicate_zero, Nat.zero_add, Nat.reduceAdd, Nat.reduceSub, Nat.sub_self, if_true, if_false, Bool.false_eq_true, Bool.not_true, Bool.not_false, reduceCtorEq, ite_true, ite_false, List.getElem?_cons_zero, List.getElem?_cons_succ, List.set_cons_zero, List.set_cons_succ, LEN, Nat.reduceLeDiff, Option.map_some, fvA, List.length_map, List.length_set, decide_true, decide_false, fhA, List.mem_cons, List.not_mem_nil, or_false, or_true, Nat.reduceEqDiff, Nat.succ_ne_self, fxA, fwA, fyA, and_true, true_and, imp_self, true_imp_iff, false_imp_iff, implies_true, fzA, fzW, v_strI2 (n := n) (by omega)]
  · simp only [fdA, List.map_cons, List.map_nil, List.length_cons, List.length_nil, List.cons_append, List.nil_append, List.replicate_succ, List.replicate_zero, Nat.zero_add, Nat.reduceAdd, Nat.reduceSub, Nat.sub_self, if_true, if_false, Bool.false_eq_true, Bool.not_true, Bool.not_false, reduceCtorEq, ite_true, ite_false, List.getElem?_cons_zero, List.getElem?_cons_succ, List.set_cons_zero, List.set_cons_succ, LEN, Nat.reduceLeDiff, Option.map_some, fvA, List.length_map, List.length_set, decide_true, decide_false, fhA, List.mem_cons, List.not_mem_nil, or_false, or_true, Nat.reduceEqDiff, Nat.succ_ne_self, fxA, fwA, fyA, and_true, true_and, imp_self, true_imp_iff, false_imp_iff, implies_true, fzA, fzW, jn, e]
    rfl
def bT (s : Sys) : Prop := s.items.length ≤ 6 ∧ s.groups.length ≤ 8 ∧ (∀ g ∈ s.items, okG g) ∧ ∀ g ∈ s.groups, okR g
theorem linesT_len {s : Sys} (h : bT s) : (∀ l ∈ linesT s, l.length ≤ 1000) ∧ (linesT s).length ≤ 14 := by
  obtain ⟨h1, h2, h3, h4⟩ := h
  refine ⟨fun l m => ?_, ?_⟩
  · rcases List.mem_append.mp m with m | m
    · obtain ⟨g, mg, rfl⟩ := List.mem_map.mp m
      exact itemT_len (h3 g mg)
    · obtain ⟨g, mg, rfl⟩ := List.mem_map.mp m
      exact groupT_len (h4 g mg)
  · unfold linesT
    rw [List.length_append, List.length_map, List.length_map]
    omega
theorem textT_len {s : Sys} (h : bT s) : (textT s).length ≤ 20000 := by
  obtain ⟨h1, h2⟩ := linesT_len h
  have := joinT_len (sep := Str.ofString "") (ys := (linesT s).map (· ++ sLine)) (b := 1001) (k := 0) (fun y m => by
    obtain ⟨l, ml, rfl⟩ := List.mem_map.mp m
    have := h1 l ml
    rw [app_len, show sLine.length = 1 by decide +kernel]
    omega) (by decide +kernel)
  rw [List.length_map] at this
  unfold textT
  omega
theorem format_system_eq {T : Type} {t : T} {s : Sys} (h : bT s) : FF_format_system [syD s] t = some (.ok (.str (textT s)) false, t) := by
  obtain ⟨l1, l2⟩ := linesT_len h
  obtain ⟨h1, h2, h3, h4⟩ := id h
  have jn := v_joinS (sep := Str.ofString "") (ys := (linesT s).map (· ++ sLine)) (b := 1001) (fun y m => by
    obtain ⟨l, ml, rfl⟩ := List.mem_map.mp m
    have := l1 l ml
    rw [app_len, show sLine.length = 1 by decide +kernel]
    omega) (by decide +kernel) (by rw [List.length_map]; omega)
  rw [List.map_map] at jn
  change joinD (.str (Str.ofString "")) (.lst ((linesT s).map fun l => .str (l ++ sLine))) = _ at jn
  have cat : addD (.lst (s.items.map fun g => .str (itemT g))) (.lst (s.groups.map fun g => .str (groupT g))) = some (.lst ((linesT s).map D.str), true) := by
    rw [v_cat (by rw [List.length_map, List.length_map]; simp [LEN]; omega)]
    unfold linesT
    rw [List.map_append, List.map_map, List.map_map]
    rfl
  refine w_eq ?_
  unfold FF_format_system fb_format_system syD
  simp only [fdA, List.map_cons, List.map_nil, List.length_cons, List.length_nil, List.cons_append, List.nil_append, List.replicate_succ, List.replicate_zero, Nat.zero_add, Nat.reduceAdd, Nat.reduceSub, Nat.sub_self, if_true, if_false, Bool.false_eq_true, Bool.not_true, Bool.not_false, reduceCtorEq, ite_true, ite_false, List.getElem?_cons_zero, List.getElem?_cons_succ, List.set_cons_zero, List.set_cons_succ, LEN, Nat.reduceLeDiff, Option.map_some, fvA, List.length_map, List.length_set, decide_true, decide_false, fhA, List.mem_cons, List.not_mem_nil, or_false, or_true, Nat.reduceEqDiff, Nat.succ_ne_self, fxA, fwA, fyA, and_true, true_and, imp_self, true_imp_iff, false_imp_iff, implies_true, fzA, fzW]
  refine ⟨by omega, w_map s.items gD rfl (fun g => .str (itemT g)) (fun g m => ?_) ?_⟩
  · simp only [fdA, List.map_cons, List.map_nil, List.length_cons, List.length_nil, List.cons_append, List.nil_append, List.replicate_succ, List.replicate_zero, Nat.zero_add, Nat.reduceAdd, Nat.reduceSub, Nat.sub_self, if_true, if_false, Bool.false_eq_true, Bool.not_true, Bool.not_false, reduceCtorEq, ite_true, ite_false, List.getElem?_cons_zero, List.getElem?_cons_succ, List.set_cons_zero, List.set_cons_succ, LEN, Nat.reduceLeDiff, Option.map_some, fvA, List.length_map, List.length_set, decide_true, decide_false, fhA, List.mem_cons, List.not_mem_nil, or_false, or_true, Nat.reduceEqDiff, Nat.succ_ne_self, fxA, fwA, fyA, and_true, true_and, imp_self, true_imp_iff, false_imp_iff, implies_true, fzA, fzW, item_line_eq (t := t) (h3 g m)]
  · refine ⟨by omega, w_map s.groups grD rfl (fun g => .str (groupT g)) (fun g m => ?_) ?_⟩
    · simp only [fdA, List.map_cons, List.map_nil, List.length_cons, List.length_nil, List.cons_append, List.nil_append, List.replicate_succ, List.replicate_zero, Nat.zero_add, Nat.reduceAdd, Nat.reduceSub, Nat.sub_self, if_true, if_false, Bool.false_eq_true, Bool.not_true, Bool.not_false, reduceCtorEq, ite_true, ite_false, List.getElem?_cons_zero, List.getElem?_cons_succ, List.set_cons_zero, List.set_cons_succ, LEN, Nat.reduceLeDiff, Option.map_some, fvA, List.length_map, List.length_set, decide_true, decide_false, fhA, List.mem_cons, List.not_mem_nil, or_false, or_true, Nat.reduceEqDiff, Nat.succ_ne_self, fxA, fwA, fyA, and_true, true_and, imp_self, true_imp_iff, false_imp_iff, implies_true, fzA, fzW, group_line_eq (t := t) (h4 g m)]
    · simp only [fdA, List.map_cons, List.map_nil, List.length_cons, List.length_nil, List.cons_append, List.nil_append, List.replicate_succ, List.replicate_zero, Nat.zero_add, Nat.reduceAdd, Nat.reduceSub, Nat.sub_self, if_true, if_false, Bool.false_eq_true, Bool.not_true, Bool.not_false, reduceCtorEq, ite_true, ite_false, List.getElem?_cons_zero, List.getElem?_cons_succ, List.set_cons_zero, List.set_cons_succ, LEN, Nat.reduceLeDiff, Option.map_some, fvA, List.length_map, List.length_set, decide_true, decide_false, fhA, List.mem_cons, List.not_mem_nil, or_false, or_true, Nat.reduceEqDiff, Nat.succ_ne_self, fxA, fwA, fyA, and_true, true_and, imp_self, true_imp_iff, false_imp_iff, implies_true, fzA, fzW, cat, q_mth1, q_mthK, q_mthG]
      refine ⟨by omega, w_map (linesT s) D.str rfl (fun l => .str (l ++ sLine)) (fun l m => ?_) ?_⟩
      · have := l1 l m
        simp only [fdA, List.map_cons, List.map_nil, List.length_cons, List.length_nil, List.cons_append, List.nil_append, List.replicate_succ, List.replicate_zero, Nat.zero_add, Nat.reduceAdd, Nat.reduceSub, Nat.sub_self, if_true, if_false, Bool.false_eq_true, Bool.not_true, Bool.not_false, reduceCtorEq, ite_true, ite_false, List.getElem?_cons_zero, List.getElem?_cons_succ, List.set_cons_zero, List.set_cons_succ, LEN, Nat.reduceLeDiff, Option.map_some, fvA, List.length_map, List.length_set, decide_true, decide_false, fhA, List.mem_cons, List.not_mem_nil, or_false, or_true, Nat.reduceEqDiff, Nat.succ_ne_self, fxA, fwA, fyA, and_true, true_and, imp_self, true_imp_iff, false_imp_iff, implies_true, fzA, fzW, v_addS (a := l) (b := sLine) (by rw [show sLine.length = 1 by decide +kernel]; omega)]
      · simp only [fdA, List.map_cons, List.map_nil, List.length_cons, List.length_nil, List.cons_append, List.nil_append, List.replicate_succ, List.replicate_zero, Nat.zero_add, Nat.reduceAdd, Nat.reduceSub, Nat.sub_self, if_true, if_false, Bool.false_eq_true, Bool.not_true, Bool.not_false, reduceCtorEq, ite_true, ite_false, List.getElem?_cons_zero, List.getElem?_cons_succ, List.set_cons_zero, List.set_cons_succ, LEN, Nat.reduceLeDiff, Option.map_some, fvA, List.length_map, List.length_set, decide_true, decide_false, fhA, List.mem_cons, List.not_mem_nil, or_false, or_true, Nat.reduceEqDiff, Nat.succ_ne_self, fxA, fwA, fyA, and_true, true_and, imp_self, true_imp_iff, false_imp_iff, implies_true, fzA, fzW, jn]
        rfl
end FD

/-! LJ: a system's text read. -/
namespace FD
open PySem PySem.Spec PyProof.Rows L2 TL
abbrev sDash : Str := Str.ofString "-"
theorem str_dash : sDash = ⟨#[45]⟩ := by decide +kernel
theorem starts_dash (w : Str) : Txt.startswith w sDash = ((tl w).head? == some 45) := by
  rw [str_dash]
  unfold Txt.startswith Builtin.Str.subAt
  obtain ⟨⟨l⟩⟩ := w
  cases l with
  | nil => rfl
  | cons c r =>
    show (decide (0 + 1 ≤ (c :: r).length) && ((⟨c :: r⟩ : Array Nat).extract 0 (0 + 1) == #[45])) = (some c == some 45)
    have e : (⟨c :: r⟩ : Array Nat).extract 0 (0 + 1) = #[c] := by simp
    rw [e]
    simp
theorem number_strI {T : Type} {t : T} {n : Int} (h0 : 0 ≤ n) (h1 : n ≤ 1000000000000) : FF_number_in [.str (strI n)] t = some (.ok (.int n) false, t) := by
  have e := number_in_eq (t := t) (w := strI n) (by have := strI_len (n := n) (by omega); omega)
  rw [(numS_strI h0 h1).1] at e
  rw [e]
  show some (FOut.ok (.int ((n.toNat : Nat) : Int)) false, t) = _
  rw [Int.toNat_of_nonneg h0]
theorem cut_drop {z : Str} {c : Nat} {r : List Nat} (h : tl z = c :: r) : tl (cutS z (some 1) none) = r := by
  have n : z.length = r.length + 1 := by rw [len_tl, h, List.length_cons]
  have e1 : HT.sIx z.length 0 (some 1) = 1 := by
    show (if (1 : Int) < 0 then (1 + (z.length : Int)).toNat else min (1 : Int).toNat z.length) = 1
    rw [if_neg (by decide), n]
    show min 1 (r.length + 1) = 1
    omega
  have e2 : HT.sIx z.length z.length none = z.length := rfl
  show ((tl z).drop (HT.sIx z.length 0 (some 1))).take (HT.sIx z.length z.length none - HT.sIx z.length 0 (some 1)) = r
  rw [e1, e2, h, n]
  simp
theorem cut_one {n : Int} (h : n < 0) : cutS (strI n) (some 1) none = strI (n.natAbs : Nat) := ext_tl (by
  rw [cut_drop (strI_neg h), tl_strI (by omega)]
  rfl)
theorem signed_in_eq {T : Type} {t : T} {n : Int} (h : n.natAbs ≤ 1000000000000) : FF_signed_in [.str (strI n)] t = some (.ok (.int n) false, t) := by
  have st : startsD (.str (strI n)) (.str sDash) = some (.bl (Txt.startswith (strI n) sDash), false) := rfl
  rw [starts_dash] at st
  refine w_eq ?_
  unfold FF_signed_in fb_signed_in
  by_cases q : n < 0
  · rw [strI_neg q] at st
    have l14 := strI_len h
    have sl : slTF true false (varF 0) (conF (.int 1)) (conF .non) ([.v (.str (strI n)), .no], t) = some (.ok (.d (.str (cutS (strI n) (some 1) none))), ([.v (.str (strI n)), .no], t)) :=
      q_slT_lo (ra := .s 0) (rg := .d (.int 1)) rfl rfl rfl rfl (by omega)
    rw [cut_one q] at sl
    have nu := number_strI (T := T) (t := t) (n := (n.natAbs : Nat)) (by omega) (by omega)
    rw [show ((45 :: numL n.natAbs).head? == some 45) = true from rfl] at st
    simp only [fdA, List.map_cons, List.map_nil, List.length_cons, List.length_nil, List.cons_append, List.nil_append, List.replicate_succ, List.replicate_zero, Nat.zero_add, Nat.reduceAdd, Nat.reduceSub, Nat.sub_self, if_true, if_false, Bool.false_eq_true, Bool.not_true, Bool.not_false, reduceCtorEq, ite_true, ite_false, List.getElem?_cons_zero, List.getElem?_cons_succ, List.set_cons_zero, List.set_cons_succ, LEN, Nat.reduceLeDiff, Option.map_some, fvA, List.length_map, List.length_set, decide_true, decide_false, fhA, List.mem_cons, List.not_mem_nil, or_false, or_true, Nat.reduceEqDiff, Nat.succ_ne_self, fxA, fwA, fyA, and_true, true_and, imp_self, true_imp_iff, false_imp_iff, implies_true, fzA, fzW, q_mth1, q_mthK, q_mthG, st, sl, nu, v_neg]
    exact ⟨fun z => absurd (of_decide_eq_true z) (by omega), fun _ => by rw [show -((n.natAbs : Nat) : Int) = n by omega]⟩
  · rw [tl_strI (by omega)] at st
    have hd : ((numL n.toNat).head? == some 45) = false := by
      rw [beq_eq_false_iff_ne]
      intro z
      have : 45 ∈ numL n.toNat := List.mem_of_mem_head? (by rw [z]; rfl)
      have := numL_digits n.toNat 45 this
      omega
    rw [hd] at st
    have nu := number_strI (T := T) (t := t) (n := n) (by omega) (by omega)
    simp only [fdA, List.map_cons, List.map_nil, List.length_cons, List.length_nil, List.cons_append, List.nil_append, List.replicate_succ, List.replicate_zero, Nat.zero_add, Nat.reduceAdd, Nat.reduceSub, Nat.sub_self, if_true, if_false, Bool.false_eq_true, Bool.not_true, Bool.not_false, reduceCtorEq, ite_true, ite_false, List.getElem?_cons_zero, List.getElem?_cons_succ, List.set_cons_zero, List.set_cons_succ, LEN, Nat.reduceLeDiff, Option.map_some, fvA, List.length_map, List.length_set, decide_true, decide_false, fhA, List.mem_cons, List.not_mem_nil, or_false, or_true, Nat.reduceEqDiff, Nat.succ_ne_self, fxA, fwA, fyA, and_true, true_and, imp_self, true_imp_iff, false_imp_iff, implies_true, fzA, fzW, q_mth1, q_mthK, q_mthG, st, nu]
/-! ### none among them -/
theorem eq_non {d : D} {n : Nat} (h : okD n d = true) (ne : d ≠ .non) : eqB d .non = false := by
  cases d with
  | non => exact absurd rfl ne
  | bl _ => rfl
  | int _ => rfl
  | str _ => rfl
  | tup _ => rfl
  | lst _ => rfl
  | dct _ => simp [okD] at h
  | obj _ _ => simp [okD] at h
  | ty _ => simp [okD] at h
  | hnd _ => simp [okD] at h
  | fn _ => simp [okD] at h
theorem okAll_iff {n : Nat} : ∀ {ds : List D}, okAll n ds = true ↔ ∀ d ∈ ds, okD n d = true
  | [] => by simp [okAll]
  | d :: ds => by
    rw [okAll, Bool.and_eq_true, okAll_iff]
    simp
theorem any_non {ds : List D} (h : okAll 63 ds = true) (ne : ∀ d ∈ ds, d ≠ .non) : (ds.any fun z => eqB z .non) = false := by
  rw [List.any_eq_false]
  intro d m
  rw [eq_non (okAll_iff.mp h d m) (ne d m)]
  decide
theorem in_tup {ds : List D} (h : okAll 63 ds = true) (ne : ∀ d ∈ ds, d ≠ .non) : inD .non (.tup ds) = some (.bl false, false) := by
  show (if okD 63 .non = true ∧ okAll 63 ds = true then some (D.bl (ds.any fun z => eqB z .non), false) else _) = _
  rw [if_pos ⟨by simp [okD], h⟩, any_non h ne]
theorem in_lst {ds : List D} (h : okAll 63 ds = true) (ne : ∀ d ∈ ds, d ≠ .non) : inD .non (.lst ds) = some (.bl false, false) := by
  show (if okD 63 .non = true ∧ okAll 63 ds = true then some (D.bl (ds.any fun z => eqB z .non), false) else _) = _
  rw [if_pos ⟨by simp [okD], h⟩, any_non h ne]
/-! ### steps, groups -/
theorem strI_free {n : Int} {c : Nat} (h : c < 45 ∨ c = 46 ∨ c = 47 ∨ 57 < c) : c ∉ tl (strI n) := fun m => by
  have := strI_signs c m
  omega
theorem step_in_eq {T : Type} {t : T} {s : Int × Int} (h : 0 ≤ s.1 ∧ s.1 ≤ 1000000000000 ∧ s.2.natAbs ≤ 1000000) : FF_step_in [.str (stepT s)] t = some (.ok (stD s) false, t) := by
  have l := stepT_len h
  have pt : txPartD (.str (stepT s)) (.str sStar) = some (.tup [.str (strI s.1), .str sStar, .str (strI s.2)], false) := by
    have e := partition_app (y := sStar) (s := 42) (S := []) (by decide +kernel) (a := strI s.1) (b := strI s.2) (strI_free (by omega))
    show (if (sStar.length == 0) = false ∧ (stepT s).length ≤ 1000000 then some (D.tup [.str (Txt.partition (stepT s) sStar).1, .str (Txt.partition (stepT s) sStar).2.1, .str (Txt.partition (stepT s) sStar).2.2], false) else none) = _
    rw [if_pos ⟨by decide +kernel, by omega⟩]
    unfold stepT
    rw [e]
  have nn := in_tup (ds := [.int s.1, .int s.2]) (by simp [okAll, okD]) (by simp)
  refine w_eq ?_
  unfold FF_step_in fb_step_in
  simp only [fdA, List.map_cons, List.map_nil, List.length_cons, List.length_nil, List.cons_append, List.nil_append, List.replicate_succ, List.replicate_zero, Nat.zero_add, Nat.reduceAdd, Nat.reduceSub, Nat.sub_self, if_true, if_false, Bool.false_eq_true, Bool.not_true, Bool.not_false, reduceCtorEq, ite_true, ite_false, List.getElem?_cons_zero, List.getElem?_cons_succ, List.set_cons_zero, List.set_cons_succ, LEN, Nat.reduceLeDiff, Option.map_some, fvA, List.length_map, List.length_set, decide_true, decide_false, fhA, List.mem_cons, List.not_mem_nil, or_false, or_true, Nat.reduceEqDiff, Nat.succ_ne_self, fxA, fwA, fyA, and_true, true_and, imp_self, true_imp_iff, false_imp_iff, implies_true, fzA, fzW, q_mth1, q_mthK, q_mthG, pt, number_strI (t := t) h.1 h.2.1, signed_in_eq (t := t) (n := s.2) (by omega), nn]
  rfl
theorem steps_in_eq {T : Type} {t : T} {g : GC.Gs} (h : okG g) : FF_steps_in [.lst (g.map fun s => .str (stepT s))] t = some (.ok (gD g) false, t) := by
  have nn := in_lst (ds := g.map stD) (okAll_iff.mpr fun d m => by
    obtain ⟨s, _, rfl⟩ := List.mem_map.mp m
    simp [stD, okD, okAll]) (fun d m => by
    obtain ⟨s, _, rfl⟩ := List.mem_map.mp m
    simp [stD])
  have gl := h.1
  refine w_eq ?_
  unfold FF_steps_in fb_steps_in
  simp only [fdA, List.map_cons, List.map_nil, List.length_cons, List.length_nil, List.cons_append, List.nil_append, List.replicate_succ, List.replicate_zero, Nat.zero_add, Nat.reduceAdd, Nat.reduceSub, Nat.sub_self, if_true, if_false, Bool.false_eq_true, Bool.not_true, Bool.not_false, reduceCtorEq, ite_true, ite_false, List.getElem?_cons_zero, List.getElem?_cons_succ, List.set_cons_zero, List.set_cons_succ, LEN, Nat.reduceLeDiff, Option.map_some, fvA, List.length_map, List.length_set, decide_true, decide_false, fhA, List.mem_cons, List.not_mem_nil, or_false, or_true, Nat.reduceEqDiff, Nat.succ_ne_self, fxA, fwA, fyA, and_true, true_and, imp_self, true_imp_iff, false_imp_iff, implies_true, fzA, fzW]
  refine ⟨by omega, w_map g (fun s => .str (stepT s)) rfl stD (fun s m => ?_) ?_⟩
  · simp only [fdA, List.map_cons, List.map_nil, List.length_cons, List.length_nil, List.cons_append, List.nil_append, List.replicate_succ, List.replicate_zero, Nat.zero_add, Nat.reduceAdd, Nat.reduceSub, Nat.sub_self, if_true, if_false, Bool.false_eq_true, Bool.not_true, Bool.not_false, reduceCtorEq, ite_true, ite_false, List.getElem?_cons_zero, List.getElem?_cons_succ, List.set_cons_zero, List.set_cons_succ, LEN, Nat.reduceLeDiff, Option.map_some, fvA, List.length_map, List.length_set, decide_true, decide_false, fhA, List.mem_cons, List.not_mem_nil, or_false, or_true, Nat.reduceEqDiff, Nat.succ_ne_self, fxA, fwA, fyA, and_true, true_and, imp_self, true_imp_iff, false_imp_iff, implies_true, fzA, fzW, step_in_eq (t := t) (h.2 s m)]
  · simp only [fdA, List.map_cons, List.map_nil, List.length_cons, List.length_nil, List.cons_append, List.nil_append, List.replicate_succ, List.replicate_zero, Nat.zero_add, Nat.reduceAdd, Nat.reduceSub, Nat.sub_self, if_true, if_false, Bool.false_eq_true, Bool.not_true, Bool.not_false, reduceCtorEq, ite_true, ite_false, List.getElem?_cons_zero, List.getElem?_cons_succ, List.set_cons_zero, List.set_cons_succ, LEN, Nat.reduceLeDiff, Option.map_some, fvA, List.length_map, List.length_set, decide_true, decide_false, fhA, List.mem_cons, List.not_mem_nil, or_false, or_true, Nat.reduceEqDiff, Nat.succ_ne_self, fxA, fwA, fyA, and_true, true_and, imp_self, true_imp_iff, false_imp_iff, implies_true, fzA, fzW, nn]
    rfl
theorem split_comma {ms : List Int} (ne : ms ≠ []) : Txt.split (Txt.join sComma (ms.map strI)) sComma = ms.map strI := split_join (s := 44) (S := []) (by decide +kernel) (by decide +kernel) (by simpa using ne) fun p m => by
  obtain ⟨n, _, rfl⟩ := List.mem_map.mp m
  exact strI_free (by omega)
theorem numbers_in_eq {T : Type} {t : T} {ms : List Int} (ne : ms ≠ []) (h1 : ms.length ≤ 6) (h2 : ∀ x ∈ ms, 0 ≤ x ∧ x ≤ 100) : FF_numbers_in [.str (Txt.join sComma (ms.map strI))] t = some (.ok (tpI ms) false, t) := by
  have ln := joinT_len (ys := ms.map strI) (sep := sComma) (b := 14) (k := 1) (fun y my => by
      obtain ⟨n, mn, rfl⟩ := List.mem_map.mp my
      have := h2 n mn
      exact strI_len (by omega)) (by decide +kernel)
  rw [List.length_map] at ln
  have sp : splitD (.str (Txt.join sComma (ms.map strI))) (.str sComma) = some (.lst ((ms.map strI).map D.str), true) := by
    show (if (sComma.length == 0) = false ∧ (Txt.join sComma (ms.map strI)).length ≤ 1000000 then some (D.lst ((Txt.split (Txt.join sComma (ms.map strI)) sComma).map D.str), true) else none) = _
    rw [if_pos ⟨by decide +kernel, by omega⟩, split_comma ne]
  rw [List.map_map] at sp
  change _ = some (D.lst (ms.map fun n => .str (strI n)), true) at sp
  have nn := in_lst (ds := ms.map D.int) (okAll_iff.mpr fun d m => by
    obtain ⟨s, _, rfl⟩ := List.mem_map.mp m
    simp [okD]) (fun d m => by
    obtain ⟨s, _, rfl⟩ := List.mem_map.mp m
    simp)
  refine w_eq ?_
  unfold FF_numbers_in fb_numbers_in
  simp only [fdA, List.map_cons, List.map_nil, List.length_cons, List.length_nil, List.cons_append, List.nil_append, List.replicate_succ, List.replicate_zero, Nat.zero_add, Nat.reduceAdd, Nat.reduceSub, Nat.sub_self, if_true, if_false, Bool.false_eq_true, Bool.not_true, Bool.not_false, reduceCtorEq, ite_true, ite_false, List.getElem?_cons_zero, List.getElem?_cons_succ, List.set_cons_zero, List.set_cons_succ, LEN, Nat.reduceLeDiff, Option.map_some, fvA, List.length_map, List.length_set, decide_true, decide_false, fhA, List.mem_cons, List.not_mem_nil, or_false, or_true, Nat.reduceEqDiff, Nat.succ_ne_self, fxA, fwA, fyA, and_true, true_and, imp_self, true_imp_iff, false_imp_iff, implies_true, fzA, fzW, q_mth1, q_mthK, q_mthG, sp]
  refine ⟨by omega, w_map ms (fun n => .str (strI n)) rfl D.int (fun n m => ?_) ?_⟩
  · have := h2 n m
    simp only [fdA, List.map_cons, List.map_nil, List.length_cons, List.length_nil, List.cons_append, List.nil_append, List.replicate_succ, List.replicate_zero, Nat.zero_add, Nat.reduceAdd, Nat.reduceSub, Nat.sub_self, if_true, if_false, Bool.false_eq_true, Bool.not_true, Bool.not_false, reduceCtorEq, ite_true, ite_false, List.getElem?_cons_zero, List.getElem?_cons_succ, List.set_cons_zero, List.set_cons_succ, LEN, Nat.reduceLeDiff, Option.map_some, fvA, List.length_map, List.length_set, decide_true, decide_false, fhA, List.mem_cons, List.not_mem_nil, or_false, or_true, Nat.reduceEqDiff, Nat.succ_ne_self, fxA, fwA, fyA, and_true, true_and, imp_self, true_imp_iff, false_imp_iff, implies_true, fzA, fzW, number_strI (t := t) (n := n) (by omega) (by omega)]
  · simp only [fdA, List.map_cons, List.map_nil, List.length_cons, List.length_nil, List.cons_append, List.nil_append, List.replicate_succ, List.replicate_zero, Nat.zero_add, Nat.reduceAdd, Nat.reduceSub, Nat.sub_self, if_true, if_false, Bool.false_eq_true, Bool.not_true, Bool.not_false, reduceCtorEq, ite_true, ite_false, List.getElem?_cons_zero, List.getElem?_cons_succ, List.set_cons_zero, List.set_cons_succ, LEN, Nat.reduceLeDiff, Option.map_some, fvA, List.length_map, List.length_set, decide_true, decide_false, fhA, List.mem_cons, List.not_mem_nil, or_false, or_true, Nat.reduceEqDiff, Nat.succ_ne_self, fxA, fwA, fyA, and_true, true_and, imp_self, true_imp_iff, false_imp_iff, implies_true, fzA, fzW, nn]
theorem group_in_eq {T : Type} {t : T} {g : Grp} (h : okR g) (ne : g.ms ≠ []) : FF_group_in [.lst [.str (Txt.join sComma (g.ms.map strI)), .str (strI g.lo), .str (strI g.hi)]] t = some (.ok (grD g) false, t) := by
  obtain ⟨h1, h2, h3, h4, h5, h6⟩ := id h
  have nn := in_tup (ds := [tpI g.ms, .int g.lo, .int g.hi]) (by
    have : okAll 62 (g.ms.map D.int) = true := okAll_iff.mpr fun d m => by
      obtain ⟨s, _, rfl⟩ := List.mem_map.mp m
      simp [okD]
    simp [okAll, okD, tpI, this]) (by simp [tpI])
  have ln : lenD [.lst [.str (Txt.join sComma (g.ms.map strI)), .str (strI g.lo), .str (strI g.hi)]] = some (.int 3, false) := rfl
  refine w_eq ?_
  unfold FF_group_in fb_group_in
  simp only [fdA, List.map_cons, List.map_nil, List.length_cons, List.length_nil, List.cons_append, List.nil_append, List.replicate_succ, List.replicate_zero, Nat.zero_add, Nat.reduceAdd, Nat.reduceSub, Nat.sub_self, if_true, if_false, Bool.false_eq_true, Bool.not_true, Bool.not_false, reduceCtorEq, ite_true, ite_false, List.getElem?_cons_zero, List.getElem?_cons_succ, List.set_cons_zero, List.set_cons_succ, LEN, Nat.reduceLeDiff, Option.map_some, fvA, List.length_map, List.length_set, decide_true, decide_false, fhA, List.mem_cons, List.not_mem_nil, or_false, or_true, Nat.reduceEqDiff, Nat.succ_ne_self, fxA, fwA, fyA, and_true, true_and, imp_self, true_imp_iff, false_imp_iff, implies_true, fzA, fzW, numbers_in_eq (t := t) ne h1 h2, number_strI (t := t) h3 h4, number_strI (t := t) h5 h6, nn, ln]
  rfl
/-! ### lines -/
theorem split_item {g : GC.Gs} : Txt.split (itemT g) sSp = itemW g := split_join (s := 32) (S := []) tl_sp (by decide +kernel) (by simp [itemW]) fun p m => by
  rcases List.mem_cons.mp m with rfl | m
  · decide +kernel
  · obtain ⟨s, _, rfl⟩ := List.mem_map.mp m
    unfold stepT
    rw [tl_append, tl_append, show tl sStar = [42] by decide +kernel]
    intro z
    rcases List.mem_append.mp z with z | z
    · rcases List.mem_append.mp z with z | z
      · exact strI_free (by omega) z
      · simp at z
    · exact strI_free (by omega) z
theorem split_group {g : Grp} : Txt.split (groupT g) sSp = groupW g := split_join (s := 32) (S := []) tl_sp (by decide +kernel) (by simp [groupW]) fun p m => by
  simp only [groupW, List.mem_cons, List.not_mem_nil, or_false] at m
  rcases m with rfl | rfl | rfl | rfl
  · decide +kernel
  · rw [join_eq, tl_join, show tl sComma = [44] by decide +kernel]
    intro z
    rcases joinL_mem z with z | ⟨q, mq, z⟩
    · simp at z
    · obtain ⟨w, mw, rfl⟩ := List.mem_map.mp mq
      obtain ⟨n, _, rfl⟩ := List.mem_map.mp mw
      exact strI_free (by omega) z
  · exact strI_free (by omega)
  · exact strI_free (by omega)
theorem gD_ord {g : GC.Gs} (h : okG g) : ord (10 ^ 12) 2 (gD g) = true := ord_tup (ordA_map fun s m => by
  have := h.2 s m
  exact ord_tup (ordA_cons (ord_int (by omega)) (ordA_cons (ord_int (by omega)) ordA_nil)))
theorem grD_ord {g : Grp} (h : okR g) : ord (10 ^ 12) 2 (grD g) = true := by
  obtain ⟨h1, h2, h3, h4, h5, h6⟩ := h
  exact ord_tup (ordA_cons (tpI_ord fun x m => by have := h2 x m; omega) (ordA_cons (ord_int (by omega)) (ordA_cons (ord_int (by omega)) ordA_nil)))
theorem line_item {T : Type} {t : T} {is : List D} {g : GC.Gs} (h : okG g) (hg : gainsB (gD g) = true) (hl : is.length < 6) :
    FF_with_line [.tup [.tup is, .tup []], .str (itemT g)] t = some (.ok (.tup [.tup (is ++ [gD g]), .tup []]) false, t) := by
  have tl := itemT_len h
  have sp := v_split (x := itemT g) (by omega)
  rw [split_item] at sp
  unfold itemW at sp
  rw [List.map_cons, List.map_map] at sp
  change _ = some (D.lst (.str sItem :: g.map fun s => .str (stepT s)), true) at sp
  have ig := is_gains_eq (t := t) (gD_ord h)
  rw [hg] at ig
  have l1 : lenD [.tup []] = some (.int 0, false) := rfl
  have l2 : lenD [.tup is] = some (.int (is.length : Nat), false) := rfl
  refine w_eq ?_
  unfold FF_with_line fb_with_line
  simp only [fdA, List.map_cons, List.map_nil, List.length_cons, List.length_nil, List.cons_append, List.nil_append, List.replicate_succ, List.replicate_zero, Nat.zero_add, Nat.reduceAdd, Nat.reduceSub, Nat.sub_self, if_true, if_false, Bool.false_eq_true, Bool.not_true, Bool.not_false, reduceCtorEq, ite_true, ite_false, List.getElem?_cons_zero, List.getElem?_cons_succ, List.set_cons_zero, List.set_cons_succ, LEN, Nat.reduceLeDiff, Option.map_some, fvA, List.length_map, List.length_set, decide_true, decide_false, fhA, List.mem_cons, List.not_mem_nil, or_false, or_true, Nat.reduceEqDiff, Nat.succ_ne_self, fxA, fwA, fyA, and_true, true_and, imp_self, true_imp_iff, false_imp_iff, implies_true, fzA, fzW, q_mth1, q_mthK, q_mthG, q_star, q_starK, q_starG, sp, l1, l2, steps_in_eq (t := t) h, ig, fzP]
  refine ⟨fun _ => ?_, fun z => ?_⟩
  · have gd := give_data (τ := [Sl.v (D.tup [D.tup is, D.tup []]), Sl.v (D.str (itemT g)), Sl.v (D.tup is), Sl.v (D.tup []), Sl.v (D.str sItem), Sl.v (D.lst (List.map (fun s => D.str (stepT s)) g)), Sl.v (gD g), Sl.no]) is [Res.s 6]
    simp only [fdA, List.map_cons, List.map_nil, List.length_cons, List.length_nil, List.cons_append, List.nil_append, List.replicate_succ, List.replicate_zero, Nat.zero_add, Nat.reduceAdd, Nat.reduceSub, Nat.sub_self, if_true, if_false, Bool.false_eq_true, Bool.not_true, Bool.not_false, reduceCtorEq, ite_true, ite_false, List.getElem?_cons_zero, List.getElem?_cons_succ, List.set_cons_zero, List.set_cons_succ, LEN, Nat.reduceLeDiff, Option.map_some, fvA, List.length_map, List.length_set, decide_true, decide_false, fhA, List.mem_cons, List.not_mem_nil, or_false, or_true, Nat.reduceEqDiff, Nat.succ_ne_self, fxA, fwA, fyA, and_true, true_and, imp_self, true_imp_iff, false_imp_iff, implies_true, fzA, fzW, gd]
    rw [List.length_append, List.length_singleton]
    omega
  · have := of_decide_eq_false z
    omega
theorem line_group {T : Type} {t : T} {is gs : List D} {g : Grp} (h : okR g) (ne : g.ms ≠ []) (hm : FF_may_join [grD g, .tup gs, .int (is.length : Nat)] t = some (.ok (.bl true) false, t)) (hl : gs.length < 8) :
    FF_with_line [.tup [.tup is, .tup gs], .str (groupT g)] t = some (.ok (.tup [.tup is, .tup (gs ++ [grD g])]) false, t) := by
  have tl := groupT_len h
  have sp := v_split (x := groupT g) (by omega)
  rw [split_group] at sp
  unfold groupW at sp
  rw [List.map_cons] at sp
  have ws : [Txt.join sComma (g.ms.map strI), strI g.lo, strI g.hi].map D.str = [.str (Txt.join sComma (g.ms.map strI)), .str (strI g.lo), .str (strI g.hi)] := rfl
  rw [ws] at sp
  have l1 : lenD [.tup gs] = some (.int (gs.length : Nat), false) := rfl
  have l2 : lenD [.tup is] = some (.int (is.length : Nat), false) := rfl
  refine w_eq ?_
  unfold FF_with_line fb_with_line
  simp only [fdA, List.map_cons, List.map_nil, List.length_cons, List.length_nil, List.cons_append, List.nil_append, List.replicate_succ, List.replicate_zero, Nat.zero_add, Nat.reduceAdd, Nat.reduceSub, Nat.sub_self, if_true, if_false, Bool.false_eq_true, Bool.not_true, Bool.not_false, reduceCtorEq, ite_true, ite_false, List.getElem?_cons_zero, List.getElem?_cons_succ, List.set_cons_zero, List.set_cons_succ, LEN, Nat.reduceLeDiff, Option.map_some, fvA, List.length_map, List.length_set, decide_true, decide_false, fhA, List.mem_cons, List.not_mem_nil, or_false, or_true, Nat.reduceEqDiff, Nat.succ_ne_self, fxA, fwA, fyA, and_true, true_and, imp_self, true_imp_iff, false_imp_iff, implies_true, fzA, fzW, q_mth1, q_mthK, q_mthG, q_star, q_starK, q_starG, sp, l1, l2, group_in_eq (t := t) h ne, hm, fzP]
  refine ⟨fun z => absurd z (by decide +kernel), fun _ => ⟨fun _ => ?_, fun z => ?_⟩⟩
  · have gd := give_data (τ := [Sl.v (D.tup [D.tup is, D.tup gs]), Sl.v (D.str (groupT g)), Sl.v (D.tup is), Sl.v (D.tup gs), Sl.v (D.str sGroup), Sl.v (D.lst [D.str (Txt.join sComma (List.map strI g.ms)), D.str (strI g.lo), D.str (strI g.hi)]), Sl.no, Sl.v (grD g)]) gs [Res.s 7]
    simp only [fdA, List.map_cons, List.map_nil, List.length_cons, List.length_nil, List.cons_append, List.nil_append, List.replicate_succ, List.replicate_zero, Nat.zero_add, Nat.reduceAdd, Nat.reduceSub, Nat.sub_self, if_true, if_false, Bool.false_eq_true, Bool.not_true, Bool.not_false, reduceCtorEq, ite_true, ite_false, List.getElem?_cons_zero, List.getElem?_cons_succ, List.set_cons_zero, List.set_cons_succ, LEN, Nat.reduceLeDiff, Option.map_some, fvA, List.length_map, List.length_set, decide_true, decide_false, fhA, List.mem_cons, List.not_mem_nil, or_false, or_true, Nat.reduceEqDiff, Nat.succ_ne_self, fxA, fwA, fyA, and_true, true_and, imp_self, true_imp_iff, false_imp_iff, implies_true, fzA, fzW, gd]
    rw [List.length_append, List.length_singleton]
    omega
  · have := of_decide_eq_false z
    omega
/-! ### the whole text -/
theorem joinL_nil {a : List Nat} : ∀ r : List (List Nat), joinL [] (a :: r) = a ++ joinL [] r
  | [] => by simp [joinL]
  | _ :: _ => rfl
theorem join_end : ∀ l : List (List Nat), joinL [] (l.map (· ++ [10])) = joinL [10] (l ++ [[]])
  | [] => rfl
  | [a] => by simp [joinL]
  | a :: b :: r => by
    have ih := join_end (b :: r)
    rw [List.map_cons, joinL_nil, ih]
    show (a ++ [10]) ++ joinL [10] (b :: r ++ [[]]) = a ++ ([10] ++ joinL [10] (b :: (r ++ [[]])))
    rw [List.append_assoc]
    rfl
theorem text_eq {s : Sys} : textT s = Txt.join sLine (linesT s ++ [Str.ofString ""]) := ext_tl (by
  unfold textT
  rw [join_eq, join_eq, tl_join, tl_join, List.map_map, List.map_append, show tl sLine = [10] by decide +kernel, show tl (Str.ofString "") = [] by decide +kernel]
  rw [show [Str.ofString ""].map tl = [[]] by simp only [List.map_cons, List.map_nil, show tl (Str.ofString "") = [] by decide +kernel]]
  rw [← join_end, List.map_map]
  congr 1
  refine List.map_congr_left fun x _ => ?_
  show tl (x ++ sLine) = tl x ++ [10]
  rw [tl_append, show tl sLine = [10] by decide +kernel])
theorem line_free {s : Sys} : ∀ l ∈ linesT s, 10 ∉ tl l := fun l m => by
  have key : ∀ ws : List Str, (∀ w ∈ ws, 10 ∉ tl w) → 10 ∉ tl (Txt.join sSp ws) := fun ws h z => by
    rw [join_eq, tl_join, tl_sp] at z
    rcases joinL_mem z with z | ⟨q, mq, z⟩
    · simp at z
    · obtain ⟨w, mw, rfl⟩ := List.mem_map.mp mq
      exact h w mw z
  rcases List.mem_append.mp m with m | m
  · obtain ⟨g, _, rfl⟩ := List.mem_map.mp m
    refine key _ fun w mw => ?_
    rcases List.mem_cons.mp mw with rfl | mw
    · decide +kernel
    · obtain ⟨s, _, rfl⟩ := List.mem_map.mp mw
      unfold stepT
      rw [tl_append, tl_append, show tl sStar = [42] by decide +kernel]
      intro z
      rcases List.mem_append.mp z with z | z
      · rcases List.mem_append.mp z with z | z
        · exact strI_free (by omega) z
        · simp at z
      · exact strI_free (by omega) z
  · obtain ⟨g, _, rfl⟩ := List.mem_map.mp m
    refine key _ fun w mw => ?_
    simp only [groupW, List.mem_cons, List.not_mem_nil, or_false] at mw
    rcases mw with rfl | rfl | rfl | rfl
    · decide +kernel
    · rw [join_eq, tl_join, show tl sComma = [44] by decide +kernel]
      intro z
      rcases joinL_mem z with z | ⟨q, mq, z⟩
      · simp at z
      · obtain ⟨w, mw, rfl⟩ := List.mem_map.mp mq
        obtain ⟨n, _, rfl⟩ := List.mem_map.mp mw
        exact strI_free (by omega) z
    · exact strI_free (by omega)
    · exact strI_free (by omega)
theorem split_text {s : Sys} : Txt.split (textT s) sLine = linesT s ++ [Str.ofString ""] := by
  rw [text_eq]
  exact split_join (s := 10) (S := []) (by decide +kernel) (by decide +kernel) (by simp) fun p m => by
    rcases List.mem_append.mp m with m | m
    · exact line_free p m
    · rw [List.mem_singleton.mp m]
      decide +kernel
end FD

/-! LD: what is a system, by the law's own look. -/
namespace FD
open PySem PySem.Spec PyProof.Rows L2
theorem cap_mem : ∀ {g : GC.Gs}, (∀ s ∈ g, 1 ≤ s.1) → 0 ≤ GC.cap g ∧ ∀ s ∈ g, s.1 ≤ GC.cap g
  | [], _ => ⟨by simp [GC.cap], by simp⟩
  | (c, a) :: r, h => by
    obtain ⟨h1, h2⟩ := cap_mem (g := r) fun s m => h s (List.mem_cons_of_mem _ m)
    have h0 := h (c, a) (List.mem_cons_self ..)
    simp only [GC.cap]
    dsimp only at h0
    refine ⟨by omega, fun s m => ?_⟩
    rcases List.mem_cons.mp m with rfl | m
    · dsimp only
      omega
    · have := h2 s m
      omega
theorem gains_of {g : GC.Gs} (l : g.length ≤ 5) (h : ∀ s ∈ g, 1 ≤ s.1 ∧ s.2.natAbs ≤ 1000000) : gainsB (.tup (g.map stD)) = (fallB g && decide (GC.cap g ≤ 1000000000000)) := by
  have e : decide ((g.map stD).length ≤ 5) = true := by simpa using l
  simp only [gainsB, e, gsOf_map, Bool.true_and]
  by_cases c : GC.cap g ≤ 1000000000000
  · have : (g.map stD).all stepB = true := by
      rw [List.all_eq_true]
      intro d m
      obtain ⟨s, ms, rfl⟩ := List.mem_map.mp m
      have a := h s ms
      have b := (cap_mem fun s m => (h s m).1).2 s ms
      simp only [stD, stepB, btwD, Bool.and_eq_true, decide_eq_true_eq]
      omega
    rw [this, Bool.true_and]
  · simp [c]
/-! ### clashes -/
theorem com_filter {as bs : List Int} (ha : as.Pairwise (· < ·)) : comL as bs = (as.filter fun x => decide (x ∈ bs)).length := by
  unfold comL
  rw [← asc_iff.mpr ha]
theorem com_swap {as bs : List Int} (ha : as.Pairwise (· < ·)) (hb : bs.Pairwise (· < ·)) : comL as bs = (bs.filter fun x => decide (x ∈ as)).length := by
  rw [com_filter ha]
  refine List.Perm.length_eq ((List.perm_ext_iff_of_nodup ?_ ?_).mpr fun x => ?_)
  · exact (ha.imp fun h => Int.ne_of_lt h).sublist List.filter_sublist
  · exact (hb.imp fun h => Int.ne_of_lt h).sublist List.filter_sublist
  · simp only [List.mem_filter, decide_eq_true_eq]
    exact ⟨fun h => ⟨h.2, h.1⟩, fun h => ⟨h.2, h.1⟩⟩
/-! ### the first reason -/
end FD

/-! LK: a valid system's text, read as that system. -/
namespace FD
open PySem PySem.Spec PyProof.Rows L2 TL
theorem fall_true : ∀ {g : GC.Gs}, GC.Falls g → fallB g = true
  | [], _ => rfl
  | [a], _ => rfl
  | (c, a) :: (d, b) :: r, ⟨h1, h2, h3⟩ => by
    have ih := fall_true h3
    unfold fallB at ih ⊢
    simp only [List.drop_succ_cons, List.drop_zero, List.zip_cons_cons, List.all_cons, Bool.and_eq_true, decide_eq_true_eq] at ih ⊢
    exact ⟨h2 (d, b) (List.mem_cons_self ..), ih⟩
theorem valid_okG {s : Sys} (h : Valid s) : ∀ g ∈ s.items, okG g := fun g m => by
  obtain ⟨h1, h2, h3, h4⟩ := h.gains g m
  refine ⟨h2, fun x mx => ?_⟩
  have := count_le h1 mx
  have := h4 x mx
  exact ⟨by omega, by omega, by omega⟩
theorem valid_okR {s : Sys} (h : Valid s) : ∀ g ∈ s.groups, okR g := fun g m => by
  obtain ⟨h1, h2, h3, h4, h5, h6⟩ := h.grp g m
  have n6 := h.n2
  refine ⟨?_, fun x mx => ?_, h4, by omega, by omega, h6⟩
  · have := asc_len (m := s.items.length) h1 h3
    omega
  · have := h3 x mx
    omega
theorem gains_true {s : Sys} (h : Valid s) : ∀ g ∈ s.items, gainsB (gD g) = true := fun g m => by
  obtain ⟨h1, h2, h3, h4⟩ := h.gains g m
  have := gains_of h2 fun x mx => ⟨by have := count_le h1 mx; omega, by have := h4 x mx; omega⟩
  show gainsB (.tup (g.map stD)) = true
  rw [this, fall_true h1, decide_eq_true h3]
  rfl
theorem intsV_tpI {ns : List Int} : intsV (tpI ns) = some ns := intsD_map ns
theorem group_true {s : Sys} (h : Valid s) : ∀ g ∈ s.groups, groupB s.items.length (grD g) = true := fun g m => by
  obtain ⟨h1, h2, h3, h4, h5, h6⟩ := h.grp g m
  have a1 : choiceB s.items.length (tpI g.ms) = true := by
    unfold choiceB
    rw [intsV_tpI]
    show ascB _ _ = true
    unfold ascB
    rw [decide_eq_true h1, Bool.true_and, List.all_eq_true]
    intro x mx
    have := h3 x mx
    simp [this]
  have a2 : someT (tpI g.ms) = true := by
    unfold tpI
    cases q : g.ms with
    | nil => exact absurd q h2
    | cons a r => rfl
  have a3 : limB (.int g.lo) (.int g.hi) = true := by
    simp [limB, btwD, h4, h5, h6]
    omega
  show (choiceB s.items.length (tpI g.ms) && (someT (tpI g.ms) && limB (.int g.lo) (.int g.hi))) = true
  rw [a1, a2, a3]
  rfl
theorem msO_gr {g : Grp} : msO (grD g) = g.ms := by
  show ((intsV (tpI g.ms)).getD []) = g.ms
  rw [intsV_tpI]
  rfl
theorem compat_true {as bs : List Int} (ha : GC.Asc as) (hb : GC.Asc bs) (h : GC.Compat as bs) : compat as bs = true := by
  unfold compat
  rw [Bool.or_eq_true, Bool.and_eq_true]
  simp only [decide_eq_true_eq]
  rcases h with h | ⟨h, l⟩ | ⟨h, l⟩
  · left
    rw [com_filter ha]
    have : as.filter (fun x => decide (x ∈ bs)) = [] := List.filter_eq_nil_iff.mpr fun x m => by simp [h x m]
    rw [this]
    rfl
  · right
    rw [com_filter ha]
    have : as.filter (fun x => decide (x ∈ bs)) = as := List.filter_eq_self.mpr fun x m => by simp [h x m]
    rw [this]
    omega
  · right
    rw [com_swap ha hb]
    have : bs.filter (fun x => decide (x ∈ as)) = bs := List.filter_eq_self.mpr fun x m => by simp [h x m]
    rw [this]
    omega
def preD (s : Sys) (k : Nat) : D := .tup [.tup ((s.items.take k).map gD), .tup ((s.groups.take (k - s.items.length)).map grD)]
theorem line_at {T : Type} {t : T} {s : Sys} (h : Valid s) {k : Nat} {l : Str} (e : (linesT s)[k]? = some l) : FF_with_line [preD s k, .str l] t = some (.ok (preD s (k + 1)) false, t) := by
  have n6 := h.n2
  have g8 := h.many
  by_cases q : k < s.items.length
  · have eg : s.items[k]? = some s.items[k] := List.getElem?_eq_getElem q
    have el : (linesT s)[k]? = some (itemT s.items[k]) := by
      unfold linesT
      rw [List.getElem?_append_left (by rw [List.length_map]; exact q), List.getElem?_map, eg]
      rfl
    rw [el] at e
    cases e
    have m : s.items[k] ∈ s.items := List.getElem_mem q
    have z1 : k - s.items.length = 0 := by omega
    have z2 : k + 1 - s.items.length = 0 := by omega
    have tk : s.items.take (k + 1) = s.items.take k ++ [s.items[k]] := by
      rw [List.take_succ, eg]
      rfl
    unfold preD
    rw [z1, z2, tk, List.map_append]
    exact line_item (valid_okG h _ m) (gains_true h _ m) (by rw [List.length_map, List.length_take]; omega)
  · obtain ⟨j, rfl⟩ : ∃ j, k = s.items.length + j := ⟨k - s.items.length, by omega⟩
    have z1 : s.items.length + j - s.items.length = j := by omega
    have z2 : s.items.length + j + 1 - s.items.length = j + 1 := by omega
    have lt : s.items.length + j < (linesT s).length := (List.getElem?_eq_some_iff.mp e).1
    have ll : (linesT s).length = s.items.length + s.groups.length := by
      unfold linesT
      rw [List.length_append, List.length_map, List.length_map]
    have hj : j < s.groups.length := by omega
    have eg : s.groups[j]? = some s.groups[j] := List.getElem?_eq_getElem hj
    have el : (linesT s)[s.items.length + j]? = some (groupT s.groups[j]) := by
      unfold linesT
      rw [List.getElem?_append_right (by rw [List.length_map]; omega), List.length_map, z1, List.getElem?_map, eg]
      rfl
    rw [el] at e
    cases e
    have m : s.groups[j] ∈ s.groups := List.getElem_mem hj
    have tk : s.groups.take (j + 1) = s.groups.take j ++ [s.groups[j]] := by
      rw [List.take_succ, eg]
      rfl
    have i1 : s.items.take (s.items.length + j) = s.items := List.take_of_length_le (by omega)
    have i2 : s.items.take (s.items.length + j + 1) = s.items := List.take_of_length_le (by omega)
    unfold preD
    rw [z1, z2, i1, i2, tk, List.map_append]
    have mj := may_join_eq (t := t) (n := s.items.length) (pre := (s.groups.take j).map grD) (grD_ord (valid_okR h _ m)) n6 (fun d md => by
      obtain ⟨g, mg, rfl⟩ := List.mem_map.mp md
      exact group_true h g (List.mem_of_mem_take mg)) (by rw [List.length_map, List.length_take]; omega)
    have mt : mayB s.items.length ((s.groups.take j).map grD) (grD s.groups[j]) = true := by
      unfold mayB
      rw [group_true h _ m, Bool.true_and, List.all_eq_true]
      intro d md
      obtain ⟨g, mg, rfl⟩ := List.mem_map.mp md
      rw [msO_gr, msO_gr]
      have a := (h.grp _ m).1
      have b := (h.grp g (List.mem_of_mem_take mg)).1
      refine compat_true a b ?_
      obtain ⟨i, hi, rfl⟩ := List.mem_iff_getElem.mp mg
      rw [List.length_take] at hi
      rw [List.getElem_take]
      exact (List.pairwise_iff_getElem.mp h.pw i j (by omega) hj (by omega)).symm
    rw [mt] at mj
    exact line_group (is := s.items.map gD) (valid_okR h _ m) (h.grp _ m).2.1 (by rw [List.length_map]; exact mj) (by rw [List.length_map, List.length_take]; omega)
end FD

/-! LL: parse_system of a valid system's text. -/
namespace FD
open PySem PySem.Spec PyProof.Rows L2 TL
theorem cut_init {A : Type} {a : List A} {x : A} : cutL (a ++ [x]) none (some (-1)) = a := by
  unfold cutL sl0 sl1
  rw [HT.sIx_none]
  have e : HT.sIx (a ++ [x]).length (a ++ [x]).length (some (-1)) = a.length := by
    show (if (-1 : Int) < 0 then (-1 + ((a ++ [x]).length : Int)).toNat else min (-1 : Int).toNat (a ++ [x]).length) = a.length
    rw [if_pos (by decide), List.length_append, List.length_singleton]
    omega
  rw [e]
  simp
theorem at_last {A : Type} {a : List A} {x : A} : atI (a ++ [x]) (-1) = some x := by
  unfold atI ixN
  rw [if_neg (by decide), List.length_append, List.length_singleton, if_pos (by omega)]
  have e : (-1 + ((a.length + 1 : Nat) : Int)).toNat = a.length := by omega
  rw [e]
  simp
theorem valid_bT {s : Sys} (h : Valid s) : bT s := ⟨h.n2, h.many, valid_okG h, valid_okR h⟩
theorem parse_system_eq {T : Type} {t : T} {s : Sys} (h : Valid s) : FF_parse_system [.str (textT s)] t = some (.ok (syD s) false, t) := by
  have tl := textT_len (valid_bT h)
  obtain ⟨l1, l2⟩ := linesT_len (valid_bT h)
  have sp : splitD (.str (textT s)) (.str sLine) = some (.lst ((linesT s).map D.str ++ [.str (Str.ofString "")]), true) := by
    show (if (sLine.length == 0) = false ∧ (textT s).length ≤ 1000000 then some (D.lst ((Txt.split (textT s) sLine).map D.str), true) else none) = _
    rw [if_pos ⟨by decide +kernel, by omega⟩, split_text, List.map_append]
    rfl
  have ci := cut_init (a := (linesT s).map D.str) (x := D.str (Str.ofString ""))
  have en : enumD [.lst ((linesT s).map D.str)] = some (enumL 0 ((linesT s).map D.str)) := rfl
  refine w_eq ?_
  unfold FF_parse_system fb_parse_system
  simp only [fdA, List.map_cons, List.map_nil, List.length_cons, List.length_nil, List.cons_append, List.nil_append, List.replicate_succ, List.replicate_zero, Nat.zero_add, Nat.reduceAdd, Nat.reduceSub, Nat.sub_self, if_true, if_false, Bool.false_eq_true, Bool.not_true, Bool.not_false, reduceCtorEq, ite_true, ite_false, List.getElem?_cons_zero, List.getElem?_cons_succ, List.set_cons_zero, List.set_cons_succ, LEN, Nat.reduceLeDiff, Option.map_some, fvA, List.length_map, List.length_set, decide_true, decide_false, fhA, List.mem_cons, List.not_mem_nil, or_false, or_true, Nat.reduceEqDiff, Nat.succ_ne_self, fxA, fwA, fyA, and_true, true_and, imp_self, true_imp_iff, false_imp_iff, implies_true, fzA, fzW, q_mth1, q_mthK, q_mthG, sp, v_neg, ci, en]
  refine w_for (fun k st => ∃ x3 x4, st = ([Sl.v (D.str (textT s)), Sl.o (D.lst (List.map D.str (linesT s) ++ [D.str (Str.ofString "")])), .v (preD s k), x3, x4], t)) ⟨_, _, by rw [show preD s 0 = .tup [.tup [], .tup []] by unfold preD; rw [Nat.zero_sub]; rfl]⟩ ?_ ?_
  · rintro k d st hd ⟨x3, x4, rfl⟩
    obtain ⟨v, hv, rfl⟩ := enum_at hd
    rw [List.getElem?_map] at hv
    obtain ⟨l, hl, rfl⟩ := Option.map_eq_some_iff.mp hv
    have nn : isD (preD s (k + 1)) .non = some (.bl false, false) := rfl
    simp only [fdA, List.map_cons, List.map_nil, List.length_cons, List.length_nil, List.cons_append, List.nil_append, List.replicate_succ, List.replicate_zero, Nat.zero_add, Nat.reduceAdd, Nat.reduceSub, Nat.sub_self, if_true, if_false, Bool.false_eq_true, Bool.not_true, Bool.not_false, reduceCtorEq, ite_true, ite_false, List.getElem?_cons_zero, List.getElem?_cons_succ, List.set_cons_zero, List.set_cons_succ, LEN, Nat.reduceLeDiff, Option.map_some, fvA, List.length_map, List.length_set, decide_true, decide_false, fhA, List.mem_cons, List.not_mem_nil, or_false, or_true, Nat.reduceEqDiff, Nat.succ_ne_self, fxA, fwA, fyA, and_true, true_and, imp_self, true_imp_iff, false_imp_iff, implies_true, fzA, fzW, line_at (t := t) h hl, nn]
    exact ⟨_, _, rfl⟩
  · rintro st ⟨x3, x4, rfl⟩
    rw [enumL_len, List.length_map]
    have fin : preD s (linesT s).length = syD s := by
      have ll : (linesT s).length = s.items.length + s.groups.length := by
        unfold linesT
        rw [List.length_append, List.length_map, List.length_map]
      unfold preD syD
      rw [ll, List.take_of_length_le (by omega), List.take_of_length_le (by omega)]
    have last : ixD (.lst (List.map D.str (linesT s) ++ [D.str (Str.ofString "")])) (.int (-1)) = some (.str (Str.ofString ""), false) := v_ix_l at_last
    have ln : lenD [.lst (List.map D.str (linesT s) ++ [D.str (Str.ofString "")])] = some (.int (((linesT s).length + 1 : Nat)), false) := by
      show some (D.int ((List.map D.str (linesT s) ++ [D.str (Str.ofString "")]).length : Nat), false) = _
      rw [List.length_append, List.length_map]
      rfl
    have pos : 0 < (linesT s).length := by
      have := h.n1
      unfold linesT
      rw [List.length_append, List.length_map]
      omega
    rw [fin]
    simp only [fdA, List.map_cons, List.map_nil, List.length_cons, List.length_nil, List.cons_append, List.nil_append, List.replicate_succ, List.replicate_zero, Nat.zero_add, Nat.reduceAdd, Nat.reduceSub, Nat.sub_self, if_true, if_false, Bool.false_eq_true, Bool.not_true, Bool.not_false, reduceCtorEq, ite_true, ite_false, List.getElem?_cons_zero, List.getElem?_cons_succ, List.set_cons_zero, List.set_cons_succ, LEN, Nat.reduceLeDiff, Option.map_some, fvA, List.length_map, List.length_set, decide_true, decide_false, fhA, List.mem_cons, List.not_mem_nil, or_false, or_true, Nat.reduceEqDiff, Nat.succ_ne_self, fxA, fwA, fyA, and_true, true_and, imp_self, true_imp_iff, false_imp_iff, implies_true, fzA, fzW, v_neg, last, ln]
    intro z
    have := of_decide_eq_true z
    omega
end FD

namespace FD
open PySem PySem.Spec PyProof.Rows L2
-- _law_shuffled: slots [(0, '_law_deck_here'), (1, '_law_items'), (2, '_law_left'), (3, '_law_found')]
noncomputable def fb_q_shuffled : SF DS := (seqF (parNF 2 3 (callF listD (consA (varF 1) nilA)))
  (seqF (whileF (binF neD (varF 2) (lstF nilA)) (dropF (mutF 3 appD (consA (mutF 2 popD (consA (ucallF FF_q_next (consA (varF 0) (consA (callF lenD (consA (varF 2) nilA)) nilA))) nilA)) nilA))))
  (retF (varF 3))))
noncomputable def FF_q_shuffled : FF DS := runF 4 2 fb_q_shuffled
theorem len_q_shuffled {ds : List D} {t : DS} {o : FOut × DS} (h : FF_q_shuffled ds t = some o) : ds.length = 2 := runF_len h

-- _law_nested: slots [(0, '_law_deck_here'), (1, '_law_count'), (2, '_law_order'), (3, '_law_spans'), (4, '_law_found'), (5, '_law_low'), (6, '_law_high'), (7, '_law_cut')]
noncomputable def fb_q_nested : SF DS := (seqF (parBNF 2 3 4 (ucallF FF_q_shuffled (consA (varF 0) (consA (lrng1F (varF 1)) nilA))) (lstF (consA (tupF (consA (conF (.int 0)) (consA (varF 1) nilA))) nilA)))
  (seqF (whileF (binF neD (varF 3) (lstF nilA)) (seqF (asgF (tupG 2 (consG (nameG 5) (consG (nameG 6) nilG))) (mutF 3 popLD nilA))
  (seqF (ifF (andF (binF gtD (ucallF FF_q_next (consA (varF 0) (consA (conF (.int 3)) nilA))) (conF (.int 0))) (binF ltD (callF lenD (consA (varF 4) nilA)) (conF (.int 8)))) (dropF (mutF 4 appD (consA (callF tupleD (consA (callF sortD (consA (slF true true (varF 2) (varF 5) (varF 6)) nilA)) nilA)) nilA))) nxF)
  (ifF (binF gtD (binF subD (varF 6) (varF 5)) (conF (.int 1))) (seqF (setF 7 (binF addD (binF addD (varF 5) (conF (.int 1))) (ucallF FF_q_next (consA (varF 0) (consA (binF subD (binF subD (varF 6) (varF 5)) (conF (.int 1))) nilA)))))
  (setF 3 (binF addD (varF 3) (lstF (consA (tupF (consA (varF 5) (consA (varF 7) nilA))) (consA (tupF (consA (varF 7) (consA (varF 6) nilA))) nilA)))))) nxF))))
  (retF (ucallF FF_q_shuffled (consA (varF 0) (consA (varF 4) nilA))))))
noncomputable def FF_q_nested : FF DS := runF 8 2 fb_q_nested
theorem len_q_nested {ds : List D} {t : DS} {o : FOut × DS} (h : FF_q_nested ds t = some o) : ds.length = 2 := runF_len h

-- _law_wide_gains: slots [(0, '_law_deck_here'), (1, '_law_many'), (2, '_law_gain'), (3, '_law_found'), (4, '_law_k')]
noncomputable def fb_q_wide_gains : SF DS := (seqF (par3F 1 2 3 (ucallF FF_q_next (consA (varF 0) (consA (conF (.int 6)) nilA))) (binF ixD (lstF (consA (binF powD (conF (.int 10)) (conF (.int 6))) (consA (conF (.int 4)) (consA (ucallF FF_q_next (consA (varF 0) (consA (binF powD (conF (.int 10)) (conF (.int 6))) nilA))) nilA)))) (ucallF FF_q_next (consA (varF 0) (consA (conF (.int 3)) nilA)))) (lstF nilA))
  (seqF (forF (callI rng1D (consA (varF 1) nilA)) (nameG 4) (seqF (dropF (mutF 3 appD (consA (tupF (consA (binF addD (conF (.int 1)) (ucallF FF_q_next (consA (varF 0) (consA (binF ixD (lstF (consA (conF (.int 3)) (consA (conF (.int 100)) (consA (binF mulD (conF (.int 2)) (binF powD (conF (.int 10)) (conF (.int 11)))) nilA)))) (ucallF FF_q_next (consA (varF 0) (consA (conF (.int 3)) nilA)))) nilA)))) (consA (varF 2) nilA))) nilA)))
  (setF 2 (binF subD (binF subD (varF 2) (conF (.int 1))) (ucallF FF_q_next (consA (varF 0) (consA (binF ixD (lstF (consA (conF (.int 2)) (consA (binF mulD (conF (.int 2)) (binF powD (conF (.int 10)) (conF (.int 5)))) nilA))) (ucallF FF_q_next (consA (varF 0) (consA (conF (.int 2)) nilA)))) nilA)))))))
  (retF (callF tupleD (consA (varF 3) nilA)))))
noncomputable def FF_q_wide_gains : FF DS := runF 5 1 fb_q_wide_gains
theorem len_q_wide_gains {ds : List D} {t : DS} {o : FOut × DS} (h : FF_q_wide_gains ds t = some o) : ds.length = 1 := runF_len h

-- _law_wide_system: slots [(0, '_law_deck_here'), (1, '_law_items'), (2, '_law_groups'), (3, '_law_members'), (4, '_law_ends'), (5, '_law_k')]
noncomputable def fb_q_wide_system : SF DS := (seqF (setF 1 (callF tupleD (consA (lcF [0] [5] (callI rng1D (consA (binF addD (conF (.int 1)) (ucallF FF_q_next (consA (varF 0) (consA (conF (.int 6)) nilA)))) nilA)) (nameG 5) yesF (ucallF FF_q_wide_gains (consA (varF 0) nilA))) nilA)))
  (seqF (setF 2 (lstF nilA))
  (seqF (forF (seqI (ucallF FF_q_nested (consA (varF 0) (consA (callF lenD (consA (varF 1) nilA)) nilA)))) (nameG 3) (seqF (setF 4 (callF sortD (consA (lcF [0] [5] (callI rng1D (consA (conF (.int 2)) nilA)) (nameG 5) yesF (ucallF FF_q_next (consA (varF 0) (consA (binF ixD (lstF (consA (conF (.int 5)) (consA (binF addD (binF powD (conF (.int 10)) (conF (.int 12))) (conF (.int 1))) nilA))) (ucallF FF_q_next (consA (varF 0) (consA (conF (.int 2)) nilA)))) nilA)))) nilA)))
  (dropF (mutF 2 appD (consA (tupF (consA (varF 3) (consA (binF ixD (varF 4) (conF (.int 0))) (consA (binF ixD (varF 4) (conF (.int 1))) nilA)))) nilA)))))
  (retF (tupF (consA (varF 1) (consA (callF tupleD (consA (varF 2) nilA)) nilA)))))))
noncomputable def FF_q_wide_system : FF DS := runF 6 1 fb_q_wide_system
theorem len_q_wide_system {ds : List D} {t : DS} {o : FOut × DS} (h : FF_q_wide_system ds t = some o) : ds.length = 1 := runF_len h

-- _law_item_line: slots [(0, '_law_gains'), (1, '_law_count'), (2, '_law_gain')]
noncomputable def fb_q_item_line : SF DS := (retF (mth1F joinD (conF (.str (Str.ofString " "))) (binF addD (lstF (consA (conF (.str (Str.ofString "item"))) nilA)) (lcF [] [1, 2] (seqI (varF 0)) (tupG 2 (consG (nameG 1) (consG (nameG 2) nilG))) yesF (binF addSD (binF addSD (callF strD (consA (varF 1) nilA)) (conF (.str (Str.ofString "*")))) (callF strD (consA (varF 2) nilA)))))))
noncomputable def FF_q_item_line : FF DS := runF 3 1 fb_q_item_line
theorem len_q_item_line {ds : List D} {t : DS} {o : FOut × DS} (h : FF_q_item_line ds t = some o) : ds.length = 1 := runF_len h

-- _law_text: slots [(0, '_law_system'), (1, '_law_lines'), (2, '_law_members'), (3, '_law_least'), (4, '_law_most'), (5, '_law_gains'), (6, '_law_line'), (7, '_law_item')]
noncomputable def fb_q_text : SF DS := (seqF (setF 1 (lcF [] [5] (seqI (binF ixD (varF 0) (conF (.int 0)))) (nameG 5) yesF (ucallF FF_q_item_line (consA (varF 5) nilA))))
  (seqF (forF (seqI (binF ixD (varF 0) (conF (.int 1)))) (tupG 3 (consG (nameG 2) (consG (nameG 3) (consG (nameG 4) nilG)))) (dropF (mutF 1 appD (consA (mth1F joinD (conF (.str (Str.ofString " "))) (lstF (consA (conF (.str (Str.ofString "group"))) (consA (mth1F joinD (conF (.str (Str.ofString ","))) (lcF [] [7] (seqI (varF 2)) (nameG 7) yesF (callF strD (consA (varF 7) nilA)))) (consA (callF strD (consA (varF 3) nilA)) (consA (callF strD (consA (varF 4) nilA)) nilA)))))) nilA))))
  (retF (mth1F joinD (conF (.str (Str.ofString ""))) (lcF [] [6] (seqI (varF 1)) (nameG 6) yesF (binF addSD (varF 6) (conF (.str (Str.ofString "\n")))))))))
noncomputable def FF_q_text : FF DS := runF 8 1 fb_q_text
theorem len_q_text {ds : List D} {t : DS} {o : FOut × DS} (h : FF_q_text ds t = some o) : ds.length = 1 := runF_len h

-- law: slots [(0, '_law_script'), (1, '_law_deck_here'), (2, '_law_some'), (3, '_law_system'), (4, '_law_kept'), (5, '_law_text_here'), (6, '_law_turn')]
noncomputable def fb_law : SF DS := (seqF (setF 2 (lstF (consA (tupF (consA (tupF (consA (tupF nilA) nilA)) (consA (tupF nilA) nilA))) (consA (tupF (consA (tupF (consA (tupF (consA (tupF (consA (binF powD (conF (.int 10)) (conF (.int 12))) (consA (unF negD (binF powD (conF (.int 10)) (conF (.int 6)))) nilA))) nilA)) nilA)) (consA (tupF (consA (tupF (consA (tupF (consA (conF (.int 0)) nilA)) (consA (binF powD (conF (.int 10)) (conF (.int 12))) (consA (binF powD (conF (.int 10)) (conF (.int 12))) nilA)))) nilA)) nilA))) nilA))))
  (seqF (dropF (mutF 2 appD (consA (tupF (consA (binF mulD (tupF (consA (tupF (consA (tupF (consA (conF (.int 1)) (consA (conF (.int 2)) nilA))) (consA (tupF (consA (conF (.int 1)) (consA (conF (.int 1)) nilA))) (consA (tupF (consA (conF (.int 1)) (consA (conF (.int 0)) nilA))) (consA (tupF (consA (conF (.int 1)) (consA (unF negD (conF (.int 1))) nilA))) (consA (tupF (consA (conF (.int 1)) (consA (unF negD (conF (.int 2))) nilA))) nilA)))))) nilA)) (conF (.int 6))) (consA (tupF (consA (tupF (consA (tupF (consA (conF (.int 0)) (consA (conF (.int 1)) (consA (conF (.int 2)) (consA (conF (.int 3)) (consA (conF (.int 4)) (consA (conF (.int 5)) nilA))))))) (consA (conF (.int 0)) (consA (conF (.int 0)) nilA)))) nilA)) nilA))) nilA)))
  (seqF (forF (seqI (binF addD (varF 2) (lcF [1] [6] (callI rng1D (consA (conF (.int 8)) nilA)) (nameG 6) yesF (ucallF FF_q_wide_system (consA (varF 1) nilA))))) (nameG 3) (seqF (parF 4 5 (callF reprXD (consA (varF 3) nilA)) (ucallF FF_q_text (consA (varF 3) nilA)))
  (seqF (ifF (orF (notF (ucallF FF_q_same (consA (lstF (consA (ucallF FF_format_system (consA (varF 3) nilA)) (consA (ucallF FF_parse_system (consA (varF 5) nilA)) nilA))) (consA (lstF (consA (varF 5) (consA (varF 3) nilA))) nilA)))) (binF neD (callF reprXD (consA (varF 3) nilA)) (varF 4))) (retF (conF (.bl false))) nxF)
  (ifF (notF (ucallF FF_q_same (consA (lstF (consA (ucallF FF_format_system (consA (varF 3) nilA)) (consA (ucallF FF_parse_system (consA (ucallF FF_format_system (consA (varF 3) nilA)) nilA)) nilA))) (consA (lstF (consA (varF 5) (consA (varF 3) nilA))) nilA)))) (retF (conF (.bl false))) nxF))))
  (retF (conF (.bl true))))))

end FD

namespace FD
open PySem PySem.Spec PyProof.Rows L2 TL
theorem ne_nil {ds : List D} (h : okAll 63 ds = true) : neD (.lst ds) (.lst []) = some (.bl (!ds.isEmpty), false) := by
  show (if okD 64 (.lst ds) = true ∧ okD 64 (.lst []) = true then some (D.bl (!eqB (.lst ds) (.lst [])), false) else _) = _
  rw [if_pos ⟨by rw [okD]; exact h, by simp [okD, okAll]⟩]
  cases ds <;> rfl
theorem shuffled_ok {A : Type} {n : Nat} {t : DS} (f : A → D) (as : List A) (hf : ∀ a, okD 63 (f a) = true) (hl : as.length ≤ 100) (hc : t.c + 200 < 2 ^ 40) :
    ∃ (bs : List A) (t' : DS), FF_q_shuffled [.hnd n, .lst (as.map f)] t = some (.ok (.lst (bs.map f)) true, t') ∧ bs.Perm as ∧ t'.c ≤ t.c + as.length := by
  have key : wF (FF_q_shuffled [.hnd n, .lst (as.map f)] t) fun o t' => ∃ bs : List A, o = .ok (.lst (bs.map f)) true ∧ bs.Perm as ∧ t'.c ≤ t.c + as.length := by
    have lo : ∀ ls : List A, okAll 63 (ls.map f) = true := fun ls => okAll_iff.mpr fun d m => by
      obtain ⟨a, _, rfl⟩ := List.mem_map.mp m
      exact hf a
    unfold FF_q_shuffled fb_q_shuffled
    simp only [fdA, List.map_cons, List.map_nil, List.length_cons, List.length_nil, List.cons_append, List.nil_append, List.replicate_succ, List.replicate_zero, Nat.zero_add, Nat.reduceAdd, Nat.reduceSub, Nat.sub_self, if_true, if_false, Bool.false_eq_true, Bool.not_true, Bool.not_false, reduceCtorEq, ite_true, ite_false, List.getElem?_cons_zero, List.getElem?_cons_succ, List.set_cons_zero, List.set_cons_succ, LEN, Nat.reduceLeDiff, Option.map_some, fvA, List.length_map, List.length_set, decide_true, decide_false, fhA, List.mem_cons, List.not_mem_nil, or_false, or_true, Nat.reduceEqDiff, Nat.succ_ne_self, fxA, fwA, fyA, and_true, true_and, imp_self, true_imp_iff, false_imp_iff, implies_true, fzA, fzW]
    refine w_while (fun s => ∃ ls fs : List A, s.1 = [.v (.hnd n), .v (.lst (as.map f)), .o (.lst (ls.map f)), .o (.lst (fs.map f))] ∧ (fs ++ ls).Perm as ∧ s.2.c + ls.length ≤ t.c + as.length) (lenAt 2) ⟨as, [], rfl, List.Perm.refl _, Nat.le_refl _⟩ ?_
    rintro ⟨τ, u⟩ ⟨ls, fs, rfl, pm, hu⟩
    dsimp only at hu
    have len := pm.length_eq
    rw [List.length_append] at len
    have nn := ne_nil (lo ls)
    simp only [fdA, List.map_cons, List.map_nil, List.length_cons, List.length_nil, List.cons_append, List.nil_append, List.replicate_succ, List.replicate_zero, Nat.zero_add, Nat.reduceAdd, Nat.reduceSub, Nat.sub_self, if_true, if_false, Bool.false_eq_true, Bool.not_true, Bool.not_false, reduceCtorEq, ite_true, ite_false, List.getElem?_cons_zero, List.getElem?_cons_succ, List.set_cons_zero, List.set_cons_succ, LEN, Nat.reduceLeDiff, Option.map_some, fvA, List.length_map, List.length_set, decide_true, decide_false, fhA, List.mem_cons, List.not_mem_nil, or_false, or_true, Nat.reduceEqDiff, Nat.succ_ne_self, fxA, fwA, fyA, and_true, true_and, imp_self, true_imp_iff, false_imp_iff, implies_true, fzA, fzW, nn]
    refine ⟨fun ne => ?_, fun ne => ?_⟩
    · have pos : 0 < ls.length := by
        cases ls with
        | nil => simp at ne
        | cons a r => simp
      have e1 := next_eq (n := n) (t := u) (m := (ls.length : Int)) (by omega) (by omega) (by omega)
      have a1 := u.draw_in (m := (ls.length : Int)) (by omega)
      have c1 : (u.step (ls.length : Int)).c ≤ u.c + 1 := DS.step_c
      obtain ⟨k, hk⟩ := Int.eq_ofNat_of_zero_le a1.1
      have hkl : k < ls.length := by omega
      have p1 := v_popT f (as := ls) (k := k) (i := u.draw ls.length) hk hkl (by omega)
      have ap := v_app (xs := fs.map f) (d := f ls[k]) (by rw [List.length_map]; simp [LEN]; omega)
      have le := List.length_eraseIdx_of_lt hkl
      simp only [fdA, List.map_cons, List.map_nil, List.length_cons, List.length_nil, List.cons_append, List.nil_append, List.replicate_succ, List.replicate_zero, Nat.zero_add, Nat.reduceAdd, Nat.reduceSub, Nat.sub_self, if_true, if_false, Bool.false_eq_true, Bool.not_true, Bool.not_false, reduceCtorEq, ite_true, ite_false, List.getElem?_cons_zero, List.getElem?_cons_succ, List.set_cons_zero, List.set_cons_succ, LEN, Nat.reduceLeDiff, Option.map_some, fvA, List.length_map, List.length_set, decide_true, decide_false, fhA, List.mem_cons, List.not_mem_nil, or_false, or_true, Nat.reduceEqDiff, Nat.succ_ne_self, fxA, fwA, fyA, and_true, true_and, imp_self, true_imp_iff, false_imp_iff, implies_true, fzA, fzW, e1, p1, ap]
      refine ⟨⟨ls.eraseIdx k, fs ++ [ls[k]], by rw [List.map_append]; rfl, ?_, by omega⟩, ?_⟩
      · rw [List.append_assoc]
        exact ((GC.erase_perm hkl).append_left fs).trans pm
      · simp only [lenAt, List.length_map, List.getElem?_cons_succ, List.getElem?_cons_zero]
        omega
    · cases ls with
      | cons a r => simp at ne
      | nil =>
        rw [List.append_nil] at pm
        exact ⟨fs, rfl, pm, by omega⟩
  obtain ⟨o, t', e, bs, rfl, h⟩ := key
  exact ⟨bs, t', e, h⟩
theorem pick3 {a b c : Int} {i : Int} (h0 : 0 ≤ i) (h1 : i < 3) : ∃ d : Int, ixD (.lst [.int a, .int b, .int c]) (.int i) = some (.int d, false) ∧ (d = a ∨ d = b ∨ d = c) := by
  obtain ⟨k, rfl⟩ := Int.eq_ofNat_of_zero_le h0
  match k, (show k < 3 by omega) with
  | 0, _ => exact ⟨a, v_ix_l at0, .inl rfl⟩
  | 1, _ => exact ⟨b, v_ix_l at1, .inr (.inl rfl)⟩
  | 2, _ => exact ⟨c, v_ix_l (atI_nat (j := 2) rfl), .inr (.inr rfl)⟩
theorem pick2 {a b : Int} {i : Int} (h0 : 0 ≤ i) (h1 : i < 2) : ∃ d : Int, ixD (.lst [.int a, .int b]) (.int i) = some (.int d, false) ∧ (d = a ∨ d = b) := by
  obtain ⟨k, rfl⟩ := Int.eq_ofNat_of_zero_le h0
  match k, (show k < 2 by omega) with
  | 0, _ => exact ⟨a, v_ix_l at0, .inl rfl⟩
  | 1, _ => exact ⟨b, v_ix_l at1, .inr rfl⟩
def okItem (g : GC.Gs) : Prop := GC.Falls g ∧ g.length ≤ 5 ∧ GC.cap g ≤ 1000000000000 ∧ ∀ x ∈ g, -1000000 ≤ x.2 ∧ x.2 ≤ 1000000
theorem wide_gains_ok {n : Nat} {t : DS} (hc : t.c + 50 < 2 ^ 40) : ∃ g t', FF_q_wide_gains [.hnd n] t = some (.ok (gD g) false, t') ∧ okItem g ∧ t'.c ≤ t.c + 30 := by
  have key : wF (FF_q_wide_gains [.hnd n] t) fun o t' => ∃ g, o = .ok (gD g) false ∧ okItem g ∧ t'.c ≤ t.c + 30 := by
    have p5 : powD (.int 10) (.int 5) = some (.int 100000, false) := by
      unfold powD
      exact if_pos (by decide)
    have p6 : powD (.int 10) (.int 6) = some (.int 1000000, false) := by
      unfold powD
      exact if_pos (by decide)
    have m1 : mulD (.int 2) (.int 100000000000) = some (.int 200000000000, false) := v_mul (by decide) (by decide)
    have m2 : mulD (.int 2) (.int 100000) = some (.int 200000, false) := v_mul (by decide) (by decide)
    have e0 := next_eq (n := n) (t := t) (m := 6) (by decide) (by decide) (by omega)
    have a0 := t.draw_in (m := 6) (by decide)
    have c0 : (t.step 6).c ≤ t.c + 1 := DS.step_c
    generalize t.draw 6 = many at *
    generalize t.step 6 = t1 at *
    have e1 := next_eq (n := n) (t := t1) (m := 1000000) (by decide) (by decide) (by omega)
    have a1 := t1.draw_in (m := 1000000) (by decide)
    have c1 : (t1.step 1000000).c ≤ t1.c + 1 := DS.step_c
    generalize t1.draw 1000000 = z at *
    generalize t1.step 1000000 = t2 at *
    have e2 := next_eq (n := n) (t := t2) (m := 3) (by decide) (by decide) (by omega)
    have a2 := t2.draw_in (m := 3) (by decide)
    have c2 : (t2.step 3).c ≤ t2.c + 1 := DS.step_c
    obtain ⟨g0, ig, hg⟩ := pick3 (a := 1000000) (b := 4) (c := z) a2.1 a2.2
    generalize t2.draw 3 = w at *
    generalize t2.step 3 = t3 at *
    unfold FF_q_wide_gains fb_q_wide_gains
    simp only [fdA, List.map_cons, List.map_nil, List.length_cons, List.length_nil, List.cons_append, List.nil_append, List.replicate_succ, List.replicate_zero, Nat.zero_add, Nat.reduceAdd, Nat.reduceSub, Nat.sub_self, if_true, if_false, Bool.false_eq_true, Bool.not_true, Bool.not_false, reduceCtorEq, ite_true, ite_false, List.getElem?_cons_zero, List.getElem?_cons_succ, List.set_cons_zero, List.set_cons_succ, LEN, Nat.reduceLeDiff, Option.map_some, fvA, List.length_map, List.length_set, decide_true, decide_false, fhA, List.mem_cons, List.not_mem_nil, or_false, or_true, Nat.reduceEqDiff, Nat.succ_ne_self, fxA, fwA, fyA, and_true, true_and, imp_self, true_imp_iff, false_imp_iff, implies_true, fzA, fzW, fz3, e0, e1, e2, p6, ig, v_rng1 (j := many) (small_of (by omega))]
    refine w_for (fun i s => ∃ (g : GC.Gs) (cur : Int) (x : Sl), s.1 = [.v (.hnd n), .v (.int many), .v (.int cur), .o (.lst (g.map stD)), x] ∧ g.length = i ∧ GC.Falls g ∧ (∀ x ∈ g, cur < x.2) ∧ cur ≤ 1000000 ∧ - 200000 * (i : Int) ≤ cur ∧ (∀ s ∈ g, -1000000 ≤ s.2 ∧ s.2 ≤ 1000000) ∧ GC.cap g ≤ 200000000000 * (g.length : Int) ∧ s.2.c ≤ t3.c + 4 * i) ?_ ?_ ?_
    · exact ⟨[], g0, .no, rfl, rfl, trivial, (fun _ h => by cases h), by omega, by omega, (fun _ h => by cases h), by simp [GC.cap], by simp only; omega⟩
    · rintro i d ⟨τ, u⟩ hd ⟨g, cur, x, rfl, gl, gf, gc, cu, cl, gg, gcap, hu⟩
      have hi : i < (rngL 0 many).length := (List.getElem?_eq_some_iff.mp hd).1
      rw [rngL_len] at hi
      simp only at hu
      have f1 := next_eq (n := n) (t := u) (m := 3) (by decide) (by decide) (by omega)
      have b1 := u.draw_in (m := 3) (by decide)
      have d1 : (u.step 3).c ≤ u.c + 1 := DS.step_c
      obtain ⟨q1, i1, h1⟩ := pick3 (a := 3) (b := 100) (c := 200000000000) b1.1 b1.2
      generalize u.draw 3 = w1 at *
      generalize u.step 3 = u1 at *
      have f2 := next_eq (n := n) (t := u1) (m := q1) (by omega) (by omega) (by omega)
      have b2 := u1.draw_in (m := q1) (by omega)
      have d2 : (u1.step q1).c ≤ u1.c + 1 := DS.step_c
      generalize u1.draw q1 = c at *
      generalize u1.step q1 = u2 at *
      have f3 := next_eq (n := n) (t := u2) (m := 2) (by decide) (by decide) (by omega)
      have b3 := u2.draw_in (m := 2) (by decide)
      have d3 : (u2.step 2).c ≤ u2.c + 1 := DS.step_c
      obtain ⟨q2, i2, h2⟩ := pick2 (a := 2) (b := 200000) b3.1 b3.2
      generalize u2.draw 2 = w2 at *
      generalize u2.step 2 = u3 at *
      have f4 := next_eq (n := n) (t := u3) (m := q2) (by omega) (by omega) (by omega)
      have b4 := u3.draw_in (m := q2) (by omega)
      have d4 : (u3.step q2).c ≤ u3.c + 1 := DS.step_c
      generalize u3.draw q2 = a at *
      generalize u3.step q2 = u4 at *
      simp only [fdA, List.map_cons, List.map_nil, List.length_cons, List.length_nil, List.cons_append, List.nil_append, List.replicate_succ, List.replicate_zero, Nat.zero_add, Nat.reduceAdd, Nat.reduceSub, Nat.sub_self, if_true, if_false, Bool.false_eq_true, Bool.not_true, Bool.not_false, reduceCtorEq, ite_true, ite_false, List.getElem?_cons_zero, List.getElem?_cons_succ, List.set_cons_zero, List.set_cons_succ, LEN, Nat.reduceLeDiff, Option.map_some, fvA, List.length_map, List.length_set, decide_true, decide_false, fhA, List.mem_cons, List.not_mem_nil, or_false, or_true, Nat.reduceEqDiff, Nat.succ_ne_self, fxA, fwA, fyA, and_true, true_and, imp_self, true_imp_iff, false_imp_iff, implies_true, fzA, fzW, f1, f2, f3, f4, p5, v_pow11, m1, m2, i1, i2, v_app (xs := g.map stD) (d := .tup [.int (1 + c), .int cur]) (by simp [LEN]; omega)]
      refine ⟨g ++ [(1 + c, cur)], _, _, by rw [List.map_append]; rfl, by simp [gl], falls_snoc (by omega) gf gc, ?_, by omega, by omega, ?_, ?_, by omega⟩
      · intro y m
        rcases List.mem_append.mp m with m | m
        · have := gc y m
          omega
        · rw [List.mem_singleton] at m
          subst m
          show cur - 1 - a < cur
          omega
      · intro y m
        rcases List.mem_append.mp m with m | m
        · exact gg y m
        · rw [List.mem_singleton] at m
          subst m
          show -1000000 ≤ cur ∧ cur ≤ 1000000
          omega
      · rw [GC.cap_app, List.length_append]
        simp only [GC.cap, List.length_cons, List.length_nil]
        omega
    · rintro ⟨τ, u⟩ ⟨g, cur, x, rfl, gl, gf, gc, cu, cl, gg, gcap, hu⟩
      rw [rngL_len] at gl hu
      simp only at hu
      simp only [fdA, List.map_cons, List.map_nil, List.length_cons, List.length_nil, List.cons_append, List.nil_append, List.replicate_succ, List.replicate_zero, Nat.zero_add, Nat.reduceAdd, Nat.reduceSub, Nat.sub_self, if_true, if_false, Bool.false_eq_true, Bool.not_true, Bool.not_false, reduceCtorEq, ite_true, ite_false, List.getElem?_cons_zero, List.getElem?_cons_succ, List.set_cons_zero, List.set_cons_succ, LEN, Nat.reduceLeDiff, Option.map_some, fvA, List.length_map, List.length_set, decide_true, decide_false, fhA, List.mem_cons, List.not_mem_nil, or_false, or_true, Nat.reduceEqDiff, Nat.succ_ne_self, fxA, fwA, fyA, and_true, true_and, imp_self, true_imp_iff, false_imp_iff, implies_true, fzA, fzW]
      exact ⟨g, rfl, ⟨gf, by omega, by omega, gg⟩, by omega⟩
  obtain ⟨o, t', e, g, rfl, h⟩ := key
  exact ⟨g, t', e, h⟩
end FD

namespace FD
open PySem PySem.Spec PyProof.Rows L2 TL
/-! ### intervals of one order -/
abbrev Iv := Nat × Nat
def Apart (p q : Iv) : Prop := p.2 ≤ q.1 ∨ q.2 ≤ p.1
/-- q stands apart from p or strictly inside -/
def IC (p q : Iv) : Prop := Apart p q ∨ (p.1 ≤ q.1 ∧ q.2 ≤ p.2 ∧ q.2 - q.1 < p.2 - p.1)
structure Nest (m : Nat) (fi sp : List Iv) : Prop where
  inS : ∀ p ∈ sp, p.1 < p.2 ∧ p.2 ≤ m
  inF : ∀ p ∈ fi, p.1 < p.2 ∧ p.2 ≤ m
  apart : sp.Pairwise Apart
  pw : fi.Pairwise IC
  rel : ∀ p ∈ fi, ∀ q ∈ sp, IC p q
theorem Nest.drop {m : Nat} {fi sp : List Iv} {p : Iv} (h : Nest m fi (sp ++ [p])) : Nest m fi sp :=
  ⟨fun q mq => h.inS q (by simp [mq]), h.inF, (List.pairwise_append.mp h.apart).1, h.pw, fun a ma q mq => h.rel a ma q (by simp [mq])⟩
theorem Apart.symm {p q : Iv} (h : Apart p q) : Apart q p := h.elim .inr .inl
theorem ic_sub {p q r : Iv} (h : IC p q) (h1 : q.1 ≤ r.1) (h2 : r.2 ≤ q.2) (h3 : r.1 < r.2) : IC p r := by
  rcases h with (h | h) | ⟨a, b, c⟩
  · exact .inl (.inl (by omega))
  · exact .inl (.inr (by omega))
  · exact .inr ⟨by omega, by omega, by omega⟩
/-- the top of the stack is found -/
theorem Nest.find {m : Nat} {fi sp : List Iv} {p : Iv} (h : Nest m fi (sp ++ [p])) (rest : List Iv) (hr : ∀ q ∈ rest, p.1 ≤ q.1 ∧ q.2 ≤ p.2 ∧ q.1 < q.2 ∧ q.2 - q.1 < p.2 - p.1) (ha : rest.Pairwise Apart) :
    Nest m (fi ++ [p]) (sp ++ rest) ∧ Nest m fi (sp ++ rest) := by
  have hp := h.inS p (by simp)
  have pa : ∀ a ∈ sp, Apart a p := fun a ma => (List.pairwise_append.mp h.apart).2.2 a ma p (by simp)
  have inS : ∀ q ∈ sp ++ rest, q.1 < q.2 ∧ q.2 ≤ m := fun q mq => by
    rcases List.mem_append.mp mq with mq | mq
    · exact h.inS q (by simp [mq])
    · have := hr q mq
      omega
  have ap : (sp ++ rest).Pairwise Apart := List.pairwise_append.mpr ⟨(List.pairwise_append.mp h.apart).1, ha, fun a ma b mb => by
    have := hr b mb
    rcases pa a ma with z | z
    · exact .inl (by omega)
    · exact .inr (by omega)⟩
  have rel : ∀ a ∈ fi, ∀ q ∈ sp ++ rest, IC a q := fun a ma q mq => by
    rcases List.mem_append.mp mq with mq | mq
    · exact h.rel a ma q (by simp [mq])
    · have := hr q mq
      exact ic_sub (h.rel a ma p (by simp)) this.1 this.2.1 this.2.2.1
  refine ⟨⟨inS, fun q mq => ?_, ap, ?_, fun a ma q mq => ?_⟩, ⟨inS, h.inF, ap, h.pw, rel⟩⟩
  · rcases List.mem_append.mp mq with mq | mq
    · exact h.inF q mq
    · rw [List.mem_singleton.mp mq]
      exact hp
  · refine List.pairwise_append.mpr ⟨h.pw, by simp, fun a ma b mb => ?_⟩
    rw [List.mem_singleton.mp mb]
    exact h.rel a ma p (by simp)
  · rcases List.mem_append.mp ma with ma | ma
    · exact rel a ma q mq
    · rw [List.mem_singleton.mp ma]
      rcases List.mem_append.mp mq with mq | mq
      · exact .inl (pa q mq).symm
      · have := hr q mq
        exact .inr ⟨this.1, this.2.1, this.2.2.2⟩
/-! ### their sets -/
def cutI (l : List Int) (p : Iv) : List Int := (l.drop p.1).take (p.2 - p.1)
def setI (l : List Int) (p : Iv) : List Int := sortUp (cutI l p)
theorem mem_cutI {l : List Int} {p : Iv} {x : Int} : x ∈ cutI l p ↔ ∃ i, p.1 ≤ i ∧ i < p.2 ∧ l[i]? = some x := by
  unfold cutI
  rw [List.mem_iff_getElem?]
  constructor
  · rintro ⟨i, e⟩
    rw [List.getElem?_take] at e
    split at e
    · rw [List.getElem?_drop] at e
      exact ⟨p.1 + i, by omega, by omega, e⟩
    · cases e
  · rintro ⟨i, h1, h2, e⟩
    refine ⟨i - p.1, ?_⟩
    rw [List.getElem?_take, if_pos (by omega), List.getElem?_drop, show p.1 + (i - p.1) = i by omega]
    exact e
theorem cutI_len {l : List Int} {p : Iv} (h : p.2 ≤ l.length) (h1 : p.1 < p.2) : (cutI l p).length = p.2 - p.1 := by
  unfold cutI
  rw [List.length_take, List.length_drop]
  omega
theorem cutI_nodup {l : List Int} {p : Iv} (h : l.Nodup) : (cutI l p).Nodup := ((List.take_sublist _ _).trans (List.drop_sublist _ _)).nodup h
theorem compat_I {l : List Int} (nd : l.Nodup) {p q : Iv} (hp : p.1 < p.2 ∧ p.2 ≤ l.length) (hq : q.1 < q.2 ∧ q.2 ≤ l.length) (h : IC p q) : GC.Compat (setI l p) (setI l q) := by
  have sp := (sortUp_asc (cutI_nodup (p := p) nd)).2
  have sq := (sortUp_asc (cutI_nodup (p := q) nd)).2
  have lp : (setI l p).length = p.2 - p.1 := sp.length_eq.trans (cutI_len hp.2 hp.1)
  have lq : (setI l q).length = q.2 - q.1 := sq.length_eq.trans (cutI_len hq.2 hq.1)
  have mp : ∀ x, x ∈ setI l p ↔ ∃ i, p.1 ≤ i ∧ i < p.2 ∧ l[i]? = some x := fun x => sp.mem_iff.trans mem_cutI
  have mq : ∀ x, x ∈ setI l q ↔ ∃ i, q.1 ≤ i ∧ i < q.2 ∧ l[i]? = some x := fun x => sq.mem_iff.trans mem_cutI
  rcases h with h | ⟨h1, h2, h3⟩
  · left
    intro x m1 m2
    obtain ⟨i, a1, a2, e1⟩ := (mp x).mp m1
    obtain ⟨j, b1, b2, e2⟩ := (mq x).mp m2
    have : i = j := by
      obtain ⟨h1, e1⟩ := List.getElem?_eq_some_iff.mp e1
      obtain ⟨h2, e2⟩ := List.getElem?_eq_some_iff.mp e2
      exact (List.getElem_inj nd).mp (e1.trans e2.symm)
    rcases h with h | h <;> omega
  · right
    right
    refine ⟨fun x m => ?_, by rw [lp, lq]; omega⟩
    obtain ⟨i, a1, a2, e⟩ := (mq x).mp m
    exact (mp x).mpr ⟨i, by omega, by omega, e⟩
end FD

namespace FD
open PySem PySem.Spec PyProof.Rows L2 TL
def spD (p : Iv) : D := .tup [.int (p.1 : Nat), .int (p.2 : Nat)]
def measD : D → Nat
  | .tup [.int a, .int b] => (2 * (b - a) - 1).toNat
  | _ => 0
def measS {T : Type} (s : Sg T) : Nat := match s.1[3]? with
  | some (Sl.o (D.lst ds)) => (ds.map measD).sum
  | _ => 0
theorem nested_ok {n m : Nat} {t : DS} (hm : 0 < m ∧ m ≤ 20) (hc : t.c + 1000 < 2 ^ 40) :
    ∃ (fs : List (List Int)) (t' : DS), FF_q_nested [.hnd n, .int (m : Int)] t = some (.ok (.lst (fs.map tpI)) true, t') ∧ (∀ f ∈ fs, GC.Asc f ∧ f ≠ [] ∧ (∀ x ∈ f, 0 ≤ x ∧ x < m) ∧ f.length ≤ m) ∧ fs.Pairwise GC.Compat ∧ fs.length ≤ 8 ∧ t'.c ≤ t.c + 200 := by
  have key : wF (FF_q_nested [.hnd n, .int (m : Int)] t) fun o t' => ∃ fs : List (List Int), o = .ok (.lst (fs.map tpI)) true ∧ (∀ f ∈ fs, GC.Asc f ∧ f ≠ [] ∧ (∀ x ∈ f, 0 ≤ x ∧ x < m) ∧ f.length ≤ m) ∧ fs.Pairwise GC.Compat ∧ fs.length ≤ 8 ∧ t'.c ≤ t.c + 200 := by
    have er : rngL 0 (m : Int) = (GC.rangeI m).map D.int := by
      rw [rngL_nat]
      unfold GC.rangeI
      rw [List.map_map]
      rfl
    have lr := GC.rangeI_len m
    obtain ⟨od, t1, es, pm, c1⟩ := shuffled_ok (n := n) (t := t) D.int (GC.rangeI m) (fun a => by simp [okD]) (by omega) (by omega)
    rw [← er] at es
    have lo : od.length = m := by rw [pm.length_eq, lr]
    have nd : od.Nodup := pm.nodup_iff.mpr (GC.rangeI_nodup m)
    unfold FF_q_nested fb_q_nested
    have lr0 : lrD (.int (m : Int)) = some (.lst (rngL 0 (m : Int)), true) := v_lr (by omega) (by omega)
    simp only [fdA, List.map_cons, List.map_nil, List.length_cons, List.length_nil, List.cons_append, List.nil_append, List.replicate_succ, List.replicate_zero, Nat.zero_add, Nat.reduceAdd, Nat.reduceSub, Nat.sub_self, if_true, if_false, Bool.false_eq_true, Bool.not_true, Bool.not_false, reduceCtorEq, ite_true, ite_false, List.getElem?_cons_zero, List.getElem?_cons_succ, List.set_cons_zero, List.set_cons_succ, LEN, Nat.reduceLeDiff, Option.map_some, fvA, List.length_map, List.length_set, decide_true, decide_false, fhA, List.mem_cons, List.not_mem_nil, or_false, or_true, Nat.reduceEqDiff, Nat.succ_ne_self, fxA, fwA, fyA, and_true, true_and, imp_self, true_imp_iff, false_imp_iff, implies_true, fzA, fzW, lr0, es]
    refine w_while (fun s => ∃ (fi sp : List Iv) (x5 x6 x7 : Sl), s.1 = [.v (.hnd n), .v (.int (m : Int)), .o (.lst (od.map D.int)), .o (.lst (sp.map spD)), .o (.lst (fi.map fun p => tpI (setI od p))), x5, x6, x7] ∧ Nest m fi sp ∧ fi.length ≤ 8 ∧ s.2.c + 2 * measS s ≤ t1.c + 4 * m ∧ measS s ≤ 2 * m) measS ?_ ?_
    · refine ⟨[], [(0, m)], .no, .no, .no, rfl, ⟨fun p mp => ?_, (fun _ h => by cases h), by simp, .nil, (fun _ h => by cases h)⟩, by simp, ?_, ?_⟩
      · rw [List.mem_singleton.mp mp]
        exact ⟨hm.1, Nat.le_refl _⟩
      all_goals
        simp only [measS, measD, List.getElem?_cons_succ, List.getElem?_cons_zero, List.map_cons, List.map_nil, List.sum_cons, List.sum_nil]
        omega
    · rintro ⟨τ, u⟩ ⟨fi, sp, x5, x6, x7, rfl, hn, h8, hu, hs⟩
      have okS : okAll 63 (sp.map spD) = true := okAll_iff.mpr fun d md => by
        obtain ⟨p, _, rfl⟩ := List.mem_map.mp md
        simp [spD, okD, okAll]
      simp only [measS, List.getElem?_cons_succ, List.getElem?_cons_zero] at hu hs
      have nn := ne_nil okS
      simp only [fdA, List.map_cons, List.map_nil, List.length_cons, List.length_nil, List.cons_append, List.nil_append, List.replicate_succ, List.replicate_zero, Nat.zero_add, Nat.reduceAdd, Nat.reduceSub, Nat.sub_self, if_true, if_false, Bool.false_eq_true, Bool.not_true, Bool.not_false, reduceCtorEq, ite_true, ite_false, List.getElem?_cons_zero, List.getElem?_cons_succ, List.set_cons_zero, List.set_cons_succ, LEN, Nat.reduceLeDiff, Option.map_some, fvA, List.length_map, List.length_set, decide_true, decide_false, fhA, List.mem_cons, List.not_mem_nil, or_false, or_true, Nat.reduceEqDiff, Nat.succ_ne_self, fxA, fwA, fyA, and_true, true_and, imp_self, true_imp_iff, false_imp_iff, implies_true, fzA, fzW, nn]
      refine ⟨fun ne => ?_, fun ne => ?_⟩
      · obtain ⟨sp', p, rfl⟩ : ∃ sp' p, sp = sp' ++ [p] := by
          rcases List.eq_nil_or_concat sp with z | ⟨l, x, z⟩
          · rw [z] at ne
            simp at ne
          · exact ⟨l, x, by simpa using z⟩
        have pl : popLD ((sp' ++ [p]).map spD) [] = some (sp'.map spD, .tup [.int (p.1 : Nat), .int (p.2 : Nat)]) := by
          rw [List.map_append]
          show (match (sp'.map spD ++ [spD p])[(sp'.map spD ++ [spD p]).length - 1]? with | some d => some ((sp'.map spD ++ [spD p]).dropLast, d) | none => none) = _
          simp [spD]
        have hp := hn.inS p (by simp)
        have okM : (List.map measD (List.map spD (sp' ++ [p]))).sum = (List.map measD (List.map spD sp')).sum + (2 * ((p.2 : Int) - p.1) - 1).toNat := by
          rw [List.map_append, List.map_append, List.sum_append]
          simp [spD, measD]
        rw [okM] at hu hs
        have many : sp'.length ≤ (List.map measD (List.map spD sp')).sum := by
          have h0 : ∀ q ∈ sp', q.1 < q.2 := fun q mq => (hn.inS q (by simp [mq])).1
          clear hu hs hn okS nn ne pl okM
          induction sp' with
          | nil => simp
          | cons a r ih =>
            have := h0 a (by simp)
            have i := ih fun q mq => h0 q (List.mem_cons_of_mem _ mq)
            simp only [List.map_cons, List.sum_cons, List.length_cons, spD, measD]
            omega
        have e1 := next_eq (n := n) (t := u) (m := 3) (by decide) (by decide) (by omega)
        have d1 : (u.step 3).c ≤ u.c + 1 := DS.step_c
        generalize u.draw 3 = w at *
        generalize u.step 3 = u1 at *
        have ct : cutL (od.map D.int) (some ((p.1 : Nat) : Int)) (some ((p.2 : Nat) : Int)) = (cutI od p).map D.int := by
          rw [cut_map]
          unfold cutL sl0 sl1 cutI
          rw [HT.sIx_nat, HT.sIx_nat, Nat.min_eq_left (by omega), Nat.min_eq_left (by omega)]
        have ap := v_app (xs := fi.map fun p => tpI (setI od p)) (d := .tup ((sortUp (cutI od p)).map D.int)) (by rw [List.length_map]; simp [LEN]; omega)
        have ln : lenD [.lst (fi.map fun p => tpI (setI od p))] = some (.int (fi.length : Nat), false) := by
          show some (D.int ((fi.map fun p => tpI (setI od p)).length : Nat), false) = _
          rw [List.length_map]
        have so : sortD [.lst ((cutI od p).map D.int)] = some (.lst ((sortUp (cutI od p)).map D.int), true) := v_sort_l (b := false)
        have app1 : (fi.map fun p => tpI (setI od p)) ++ [.tup ((sortUp (cutI od p)).map D.int)] = (fi ++ [p]).map fun p => tpI (setI od p) := by
          rw [List.map_append]
          rfl
        have tail : ∀ (v : DS) (k : Nat), p.1 + 1 + k < p.2 → Nest m (fi ++ [p]) (sp' ++ [(p.1, p.1 + 1 + k), (p.1 + 1 + k, p.2)]) ∧ Nest m fi (sp' ++ [(p.1, p.1 + 1 + k), (p.1 + 1 + k, p.2)]) := fun v k hk =>
          hn.find _ (fun q mq => by
            simp only [List.mem_cons, List.not_mem_nil, or_false] at mq
            rcases mq with rfl | rfl
            · exact ⟨Nat.le_refl _, by dsimp only; omega, by dsimp only; omega, by dsimp only; omega⟩
            · exact ⟨by dsimp only; omega, Nat.le_refl _, by dsimp only; omega, by dsimp only; omega⟩) (by
            simp [Apart])
        have tail0 : Nest m (fi ++ [p]) sp' ∧ Nest m fi sp' := by
          have := hn.find [] (fun q mq => by cases mq) .nil
          rwa [List.append_nil] at this
        simp only [fdA, List.map_cons, List.map_nil, List.length_cons, List.length_nil, List.cons_append, List.nil_append, List.replicate_succ, List.replicate_zero, Nat.zero_add, Nat.reduceAdd, Nat.reduceSub, Nat.sub_self, if_true, if_false, Bool.false_eq_true, Bool.not_true, Bool.not_false, reduceCtorEq, ite_true, ite_false, List.getElem?_cons_zero, List.getElem?_cons_succ, List.set_cons_zero, List.set_cons_succ, LEN, Nat.reduceLeDiff, Option.map_some, fvA, List.length_map, List.length_set, decide_true, decide_false, fhA, List.mem_cons, List.not_mem_nil, or_false, or_true, Nat.reduceEqDiff, Nat.succ_ne_self, fxA, fwA, fyA, and_true, true_and, imp_self, true_imp_iff, false_imp_iff, implies_true, fzA, fzW, pl, e1, ln, ct, so]
        refine ⟨fun _ => ⟨fun lt => ?_, fun ge => ?_⟩, fun _ => ?_⟩
        · have lt8 := of_decide_eq_true lt
          simp only [fdA, List.map_cons, List.map_nil, List.length_cons, List.length_nil, List.cons_append, List.nil_append, List.replicate_succ, List.replicate_zero, Nat.zero_add, Nat.reduceAdd, Nat.reduceSub, Nat.sub_self, if_true, if_false, Bool.false_eq_true, Bool.not_true, Bool.not_false, reduceCtorEq, ite_true, ite_false, List.getElem?_cons_zero, List.getElem?_cons_succ, List.set_cons_zero, List.set_cons_succ, LEN, Nat.reduceLeDiff, Option.map_some, fvA, List.length_map, List.length_set, decide_true, decide_false, fhA, List.mem_cons, List.not_mem_nil, or_false, or_true, Nat.reduceEqDiff, Nat.succ_ne_self, fxA, fwA, fyA, and_true, true_and, imp_self, true_imp_iff, false_imp_iff, implies_true, fzA, fzW, ap, app1]
          refine ⟨fun big => ?_, fun small => ?_⟩
          · have big := of_decide_eq_true big
            have e2 := next_eq (n := n) (t := u1) (m := (p.2 : Int) - p.1 - 1) (by omega) (by omega) (by omega)
            have b2 := u1.draw_in (m := (p.2 : Int) - p.1 - 1) (by omega)
            have d2 : (u1.step ((p.2 : Int) - p.1 - 1)).c ≤ u1.c + 1 := DS.step_c
            obtain ⟨k, hk⟩ := Int.eq_ofNat_of_zero_le b2.1
            rw [hk] at e2 b2
            generalize u1.step ((p.2 : Int) - p.1 - 1) = u2 at *
            have T := tail u2 k (by omega)
            have cat : addD (.lst (sp'.map spD)) (.lst [.tup [.int ((p.1 : Nat) : Int), .int (((p.1 : Nat) : Int) + 1 + (k : Int))], .tup [.int (((p.1 : Nat) : Int) + 1 + (k : Int)), .int ((p.2 : Nat) : Int)]]) = some (.lst ((sp' ++ [(p.1, p.1 + 1 + k), (p.1 + 1 + k, p.2)]).map spD), true) := by
              rw [v_cat (by rw [List.length_map]; simp [LEN]; omega), List.map_append]
              rfl
            simp only [fdA, List.map_cons, List.map_nil, List.length_cons, List.length_nil, List.cons_append, List.nil_append, List.replicate_succ, List.replicate_zero, Nat.zero_add, Nat.reduceAdd, Nat.reduceSub, Nat.sub_self, if_true, if_false, Bool.false_eq_true, Bool.not_true, Bool.not_false, reduceCtorEq, ite_true, ite_false, List.getElem?_cons_zero, List.getElem?_cons_succ, List.set_cons_zero, List.set_cons_succ, LEN, Nat.reduceLeDiff, Option.map_some, fvA, List.length_map, List.length_set, decide_true, decide_false, fhA, List.mem_cons, List.not_mem_nil, or_false, or_true, Nat.reduceEqDiff, Nat.succ_ne_self, fxA, fwA, fyA, and_true, true_and, imp_self, true_imp_iff, false_imp_iff, implies_true, fzA, fzW, e2, cat]
            have ms : (List.map measD (List.map spD (sp' ++ [(p.1, p.1 + 1 + k), (p.1 + 1 + k, p.2)]))).sum + 1 = (List.map measD (List.map spD sp')).sum + (2 * ((p.2 : Int) - p.1) - 1).toNat := by
              rw [List.map_append, List.map_append, List.sum_append]
              simp only [List.map_cons, List.map_nil, List.sum_cons, List.sum_nil, spD, measD]
              omega
            refine ⟨⟨fi ++ [p], _, _, _, _, rfl, T.1, by first | exact h8 | (rw [List.length_append, List.length_singleton]; omega), ?_, ?_⟩, ?_⟩
            all_goals simp only [measS, List.getElem?_cons_succ, List.getElem?_cons_zero]
            · omega
            · omega
            · rw [okM]
              omega
          · have small := of_decide_eq_false small
            refine ⟨⟨fi ++ [p], sp', _, _, _, rfl, tail0.1, by first | exact h8 | (rw [List.length_append, List.length_singleton]; omega), ?_, ?_⟩, ?_⟩
            all_goals simp only [measS, List.getElem?_cons_succ, List.getElem?_cons_zero]
            · omega
            · omega
            · rw [okM]
              omega
        · refine ⟨fun big => ?_, fun small => ?_⟩
          · have big := of_decide_eq_true big
            have e2 := next_eq (n := n) (t := u1) (m := (p.2 : Int) - p.1 - 1) (by omega) (by omega) (by omega)
            have b2 := u1.draw_in (m := (p.2 : Int) - p.1 - 1) (by omega)
            have d2 : (u1.step ((p.2 : Int) - p.1 - 1)).c ≤ u1.c + 1 := DS.step_c
            obtain ⟨k, hk⟩ := Int.eq_ofNat_of_zero_le b2.1
            rw [hk] at e2 b2
            generalize u1.step ((p.2 : Int) - p.1 - 1) = u2 at *
            have T := tail u2 k (by omega)
            have cat : addD (.lst (sp'.map spD)) (.lst [.tup [.int ((p.1 : Nat) : Int), .int (((p.1 : Nat) : Int) + 1 + (k : Int))], .tup [.int (((p.1 : Nat) : Int) + 1 + (k : Int)), .int ((p.2 : Nat) : Int)]]) = some (.lst ((sp' ++ [(p.1, p.1 + 1 + k), (p.1 + 1 + k, p.2)]).map spD), true) := by
              rw [v_cat (by rw [List.length_map]; simp [LEN]; omega), List.map_append]
              rfl
            simp only [fdA, List.map_cons, List.map_nil, List.length_cons, List.length_nil, List.cons_append, List.nil_append, List.replicate_succ, List.replicate_zero, Nat.zero_add, Nat.reduceAdd, Nat.reduceSub, Nat.sub_self, if_true, if_false, Bool.false_eq_true, Bool.not_true, Bool.not_false, reduceCtorEq, ite_true, ite_false, List.getElem?_cons_zero, List.getElem?_cons_succ, List.set_cons_zero, List.set_cons_succ, LEN, Nat.reduceLeDiff, Option.map_some, fvA, List.length_map, List.length_set, decide_true, decide_false, fhA, List.mem_cons, List.not_mem_nil, or_false, or_true, Nat.reduceEqDiff, Nat.succ_ne_self, fxA, fwA, fyA, and_true, true_and, imp_self, true_imp_iff, false_imp_iff, implies_true, fzA, fzW, e2, cat]
            have ms : (List.map measD (List.map spD (sp' ++ [(p.1, p.1 + 1 + k), (p.1 + 1 + k, p.2)]))).sum + 1 = (List.map measD (List.map spD sp')).sum + (2 * ((p.2 : Int) - p.1) - 1).toNat := by
              rw [List.map_append, List.map_append, List.sum_append]
              simp only [List.map_cons, List.map_nil, List.sum_cons, List.sum_nil, spD, measD]
              omega
            refine ⟨⟨fi, _, _, _, _, rfl, T.2, by first | exact h8 | (rw [List.length_append, List.length_singleton]; omega), ?_, ?_⟩, ?_⟩
            all_goals simp only [measS, List.getElem?_cons_succ, List.getElem?_cons_zero]
            · omega
            · omega
            · rw [okM]
              omega
          · have small := of_decide_eq_false small
            refine ⟨⟨fi, sp', _, _, _, rfl, tail0.2, by first | exact h8 | (rw [List.length_append, List.length_singleton]; omega), ?_, ?_⟩, ?_⟩
            all_goals simp only [measS, List.getElem?_cons_succ, List.getElem?_cons_zero]
            · omega
            · omega
            · rw [okM]
              omega
        · refine ⟨fun big => ?_, fun small => ?_⟩
          · have big := of_decide_eq_true big
            have e2 := next_eq (n := n) (t := u1) (m := (p.2 : Int) - p.1 - 1) (by omega) (by omega) (by omega)
            have b2 := u1.draw_in (m := (p.2 : Int) - p.1 - 1) (by omega)
            have d2 : (u1.step ((p.2 : Int) - p.1 - 1)).c ≤ u1.c + 1 := DS.step_c
            obtain ⟨k, hk⟩ := Int.eq_ofNat_of_zero_le b2.1
            rw [hk] at e2 b2
            generalize u1.step ((p.2 : Int) - p.1 - 1) = u2 at *
            have T := tail u2 k (by omega)
            have cat : addD (.lst (sp'.map spD)) (.lst [.tup [.int ((p.1 : Nat) : Int), .int (((p.1 : Nat) : Int) + 1 + (k : Int))], .tup [.int (((p.1 : Nat) : Int) + 1 + (k : Int)), .int ((p.2 : Nat) : Int)]]) = some (.lst ((sp' ++ [(p.1, p.1 + 1 + k), (p.1 + 1 + k, p.2)]).map spD), true) := by
              rw [v_cat (by rw [List.length_map]; simp [LEN]; omega), List.map_append]
              rfl
            simp only [fdA, List.map_cons, List.map_nil, List.length_cons, List.length_nil, List.cons_append, List.nil_append, List.replicate_succ, List.replicate_zero, Nat.zero_add, Nat.reduceAdd, Nat.reduceSub, Nat.sub_self, if_true, if_false, Bool.false_eq_true, Bool.not_true, Bool.not_false, reduceCtorEq, ite_true, ite_false, List.getElem?_cons_zero, List.getElem?_cons_succ, List.set_cons_zero, List.set_cons_succ, LEN, Nat.reduceLeDiff, Option.map_some, fvA, List.length_map, List.length_set, decide_true, decide_false, fhA, List.mem_cons, List.not_mem_nil, or_false, or_true, Nat.reduceEqDiff, Nat.succ_ne_self, fxA, fwA, fyA, and_true, true_and, imp_self, true_imp_iff, false_imp_iff, implies_true, fzA, fzW, e2, cat]
            have ms : (List.map measD (List.map spD (sp' ++ [(p.1, p.1 + 1 + k), (p.1 + 1 + k, p.2)]))).sum + 1 = (List.map measD (List.map spD sp')).sum + (2 * ((p.2 : Int) - p.1) - 1).toNat := by
              rw [List.map_append, List.map_append, List.sum_append]
              simp only [List.map_cons, List.map_nil, List.sum_cons, List.sum_nil, spD, measD]
              omega
            refine ⟨⟨fi, _, _, _, _, rfl, T.2, by first | exact h8 | (rw [List.length_append, List.length_singleton]; omega), ?_, ?_⟩, ?_⟩
            all_goals simp only [measS, List.getElem?_cons_succ, List.getElem?_cons_zero]
            · omega
            · omega
            · rw [okM]
              omega
          · have small := of_decide_eq_false small
            refine ⟨⟨fi, sp', _, _, _, rfl, tail0.2, by first | exact h8 | (rw [List.length_append, List.length_singleton]; omega), ?_, ?_⟩, ?_⟩
            all_goals simp only [measS, List.getElem?_cons_succ, List.getElem?_cons_zero]
            · omega
            · omega
            · rw [okM]
              omega
      · have z : sp = [] := by
          cases sp with
          | nil => rfl
          | cons a r => simp at ne
        obtain ⟨bs, t9, eb, pb, c9⟩ := shuffled_ok (n := n) (t := u) tpI (fi.map (setI od)) (fun a => by
          have : okAll 62 (a.map D.int) = true := okAll_iff.mpr fun d md => by
            obtain ⟨x, _, rfl⟩ := List.mem_map.mp md
            simp [okD]
          simp [tpI, okD, this]) (by rw [List.length_map]; omega) (by omega)
        rw [List.map_map] at eb
        change FF_q_shuffled [D.hnd n, D.lst (List.map (fun p => tpI (setI od p)) fi)] u = _ at eb
        rw [List.length_map] at c9
        simp only [fdA, List.map_cons, List.map_nil, List.length_cons, List.length_nil, List.cons_append, List.nil_append, List.replicate_succ, List.replicate_zero, Nat.zero_add, Nat.reduceAdd, Nat.reduceSub, Nat.sub_self, if_true, if_false, Bool.false_eq_true, Bool.not_true, Bool.not_false, reduceCtorEq, ite_true, ite_false, List.getElem?_cons_zero, List.getElem?_cons_succ, List.set_cons_zero, List.set_cons_succ, LEN, Nat.reduceLeDiff, Option.map_some, fvA, List.length_map, List.length_set, decide_true, decide_false, fhA, List.mem_cons, List.not_mem_nil, or_false, or_true, Nat.reduceEqDiff, Nat.succ_ne_self, fxA, fwA, fyA, and_true, true_and, imp_self, true_imp_iff, false_imp_iff, implies_true, fzA, fzW, eb]
        have one : ∀ p ∈ fi, p.1 < p.2 ∧ p.2 ≤ od.length := fun p mp => by
          have := hn.inF p mp
          omega
        have pw : (fi.map (setI od)).Pairwise GC.Compat := List.pairwise_map.mpr (hn.pw.imp_of_mem fun {a b} ma mb h => compat_I nd (one a ma) (one b mb) h)
        refine ⟨bs, rfl, fun f mf => ?_, (pb.pairwise_iff fun {a b} h => h.symm).mpr pw, ?_, by omega⟩
        · obtain ⟨p, mp, rfl⟩ := List.mem_map.mp (pb.mem_iff.mp mf)
          obtain ⟨as, ps⟩ := sortUp_asc (cutI_nodup (l := od) (p := p) nd)
          have lp : (setI od p).length = p.2 - p.1 := ps.length_eq.trans (cutI_len (one p mp).2 (one p mp).1)
          have o := one p mp
          refine ⟨as, fun z => ?_, fun x mx => ?_, by omega⟩
          · rw [z] at lp
            simp only [List.length_nil] at lp
            omega
          · obtain ⟨i, _, _, e⟩ := mem_cutI.mp (ps.mem_iff.mp mx)
            exact GC.mem_rangeI.mp (pm.mem_iff.mp (List.mem_of_getElem? e))
        · rw [pb.length_eq, List.length_map]
          exact h8
  obtain ⟨o, t', e, fs, rfl, h⟩ := key
  exact ⟨fs, t', e, h⟩
end FD

namespace FD
open PySem PySem.Spec PyProof.Rows L2 TL
theorem sort2 {a b : Int} : ∃ x y, sortUp [a, b] = [x, y] ∧ x ≤ y ∧ (x = a ∨ x = b) ∧ (y = a ∨ y = b) := by
  have p : (sortUp [a, b]).Perm [a, b] := List.mergeSort_perm _ _
  have s : (sortUp [a, b]).Pairwise fun a b => decide (a ≤ b) = true := List.pairwise_mergeSort (fun a b c h1 h2 => by simp at *; omega) (fun a b => by simp; omega) _
  generalize sortUp [a, b] = l at *
  match l, p.length_eq with
  | [x, y], _ =>
    have mx : x ∈ [a, b] := p.mem_iff.mp (by simp)
    have my : y ∈ [a, b] := p.mem_iff.mp (by simp)
    simp at mx my s
    exact ⟨x, y, rfl, s, mx, my⟩
theorem wide_system_ok {n : Nat} {t : DS} (hc : t.c + 2000 < 2 ^ 40) : ∃ (s : Sys) (t' : DS), FF_q_wide_system [.hnd n] t = some (.ok (syD s) false, t') ∧ Valid s ∧ t'.c ≤ t.c + 1000 := by
  have key : wF (FF_q_wide_system [.hnd n] t) fun o t' => ∃ s : Sys, o = .ok (syD s) false ∧ Valid s ∧ t'.c ≤ t.c + 1000 := by
    have e0 := next_eq (n := n) (t := t) (m := 6) (by decide) (by decide) (by omega)
    have a0 := t.draw_in (m := 6) (by decide)
    have c0 : (t.step 6).c ≤ t.c + 1 := DS.step_c
    generalize t.draw 6 = k at *
    generalize t.step 6 = t1 at *
    unfold FF_q_wide_system fb_q_wide_system
    simp only [fdA, List.map_cons, List.map_nil, List.length_cons, List.length_nil, List.cons_append, List.nil_append, List.replicate_succ, List.replicate_zero, Nat.zero_add, Nat.reduceAdd, Nat.reduceSub, Nat.sub_self, if_true, if_false, Bool.false_eq_true, Bool.not_true, Bool.not_false, reduceCtorEq, ite_true, ite_false, List.getElem?_cons_zero, List.getElem?_cons_succ, List.set_cons_zero, List.set_cons_succ, LEN, Nat.reduceLeDiff, Option.map_some, fvA, List.length_map, List.length_set, decide_true, decide_false, fhA, List.mem_cons, List.not_mem_nil, or_false, or_true, Nat.reduceEqDiff, Nat.succ_ne_self, fxA, fwA, fyA, and_true, true_and, imp_self, true_imp_iff, false_imp_iff, implies_true, fzA, fzW, e0, v_rng1 (j := 1 + k) (small_of (by omega))]
    refine ⟨by rw [rngL_len]; omega, w_lcI (fun i (u : DS) => u.c ≤ t1.c + 30 * i) (fun _ v => ∃ g, v = gD g ∧ okItem g) ?_ (fun j d v hd hv => ?_) (fun out u lo po c1 => ?_)⟩
    · show t1.c ≤ t1.c + 30 * 0
      omega
    · have hj : j < (rngL 0 (1 + k)).length := (List.getElem?_eq_some_iff.mp hd).1
      rw [rngL_len] at hj
      obtain ⟨g, v', eg, og, cg⟩ := wide_gains_ok (n := n) (t := v) (by omega)
      simp only [fdA, List.map_cons, List.map_nil, List.length_cons, List.length_nil, List.cons_append, List.nil_append, List.replicate_succ, List.replicate_zero, Nat.zero_add, Nat.reduceAdd, Nat.reduceSub, Nat.sub_self, if_true, if_false, Bool.false_eq_true, Bool.not_true, Bool.not_false, reduceCtorEq, ite_true, ite_false, List.getElem?_cons_zero, List.getElem?_cons_succ, List.set_cons_zero, List.set_cons_succ, LEN, Nat.reduceLeDiff, Option.map_some, fvA, List.length_map, List.length_set, decide_true, decide_false, fhA, List.mem_cons, List.not_mem_nil, or_false, or_true, Nat.reduceEqDiff, Nat.succ_ne_self, fxA, fwA, fyA, and_true, true_and, imp_self, true_imp_iff, false_imp_iff, implies_true, fzA, fzW, eg]
      refine ⟨⟨_, rfl, og⟩, ?_⟩
      show v'.c ≤ t1.c + 30 * (j + 1)
      omega
    · obtain ⟨gs, rfl, hg⟩ := list_of gD (P := okItem) po
      rw [List.length_map, rngL_len] at lo
      rw [rngL_len] at c1
      have l1 : 0 < gs.length := by omega
      have l6 : gs.length ≤ 6 := by omega
      obtain ⟨fs, u1, en, hf, hpw, h8, c2⟩ := nested_ok (n := n) (m := gs.length) (t := u) (by omega) (by omega)
      have ln : lenD [.tup (gs.map gD)] = some (.int (gs.length : Nat), false) := by
        show some (D.int ((gs.map gD).length : Nat), false) = _
        rw [List.length_map]
      simp only [fdA, List.map_cons, List.map_nil, List.length_cons, List.length_nil, List.cons_append, List.nil_append, List.replicate_succ, List.replicate_zero, Nat.zero_add, Nat.reduceAdd, Nat.reduceSub, Nat.sub_self, if_true, if_false, Bool.false_eq_true, Bool.not_true, Bool.not_false, reduceCtorEq, ite_true, ite_false, List.getElem?_cons_zero, List.getElem?_cons_succ, List.set_cons_zero, List.set_cons_succ, LEN, Nat.reduceLeDiff, Option.map_some, fvA, List.length_map, List.length_set, decide_true, decide_false, fhA, List.mem_cons, List.not_mem_nil, or_false, or_true, Nat.reduceEqDiff, Nat.succ_ne_self, fxA, fwA, fyA, and_true, true_and, imp_self, true_imp_iff, false_imp_iff, implies_true, fzA, fzW, ln, en]
      refine w_forA fs tpI rfl (fun l st => ∃ (gr : List Grp) (x3 x4 x5 : Sl), st.1 = [.v (.hnd n), .v (.tup (gs.map gD)), .o (.lst (gr.map grD)), x3, x4, x5] ∧ gr.map Grp.ms = l ∧ (∀ g ∈ gr, 0 ≤ g.lo ∧ g.lo ≤ g.hi ∧ g.hi ≤ 1000000000000) ∧ st.2.c ≤ u1.c + 4 * l.length) ⟨[], .no, .no, .no, rfl, rfl, (fun _ h => by cases h), by simp⟩ ?_ ?_
      · rintro l f r ⟨τ, v⟩ el ⟨gr, x3, x4, x5, rfl, em, hg2, hv⟩
        have ll : l.length < 8 := by
          have := congrArg List.length el
          rw [List.length_append, List.length_cons] at this
          omega
        have lg : gr.length = l.length := by rw [← em, List.length_map]
        simp only at hv
        simp only [fdA, List.map_cons, List.map_nil, List.length_cons, List.length_nil, List.cons_append, List.nil_append, List.replicate_succ, List.replicate_zero, Nat.zero_add, Nat.reduceAdd, Nat.reduceSub, Nat.sub_self, if_true, if_false, Bool.false_eq_true, Bool.not_true, Bool.not_false, reduceCtorEq, ite_true, ite_false, List.getElem?_cons_zero, List.getElem?_cons_succ, List.set_cons_zero, List.set_cons_succ, LEN, Nat.reduceLeDiff, Option.map_some, fvA, List.length_map, List.length_set, decide_true, decide_false, fhA, List.mem_cons, List.not_mem_nil, or_false, or_true, Nat.reduceEqDiff, Nat.succ_ne_self, fxA, fwA, fyA, and_true, true_and, imp_self, true_imp_iff, false_imp_iff, implies_true, fzA, fzW, v_rng1 (j := 2) (small_of (by decide))]
        refine ⟨by rw [rngL_len]; decide, w_lcI (fun i (z : DS) => z.c ≤ v.c + 2 * i) (fun _ d => ∃ i : Int, d = .int i ∧ (0 ≤ i ∧ i ≤ 1000000000000)) ?_ (fun j d z hd hz => ?_) (fun out z lo2 po2 c3 => ?_)⟩
        · show v.c ≤ v.c + 2 * 0
          omega
        · have hj : j < (rngL 0 2).length := (List.getElem?_eq_some_iff.mp hd).1
          rw [rngL_len] at hj
          have f1 := next_eq (n := n) (t := z) (m := 2) (by decide) (by decide) (by omega)
          have b1 := z.draw_in (m := 2) (by decide)
          have d1 : (z.step 2).c ≤ z.c + 1 := DS.step_c
          obtain ⟨q, iq, hq⟩ := pick2 (a := 5) (b := 1000000000000 + 1) b1.1 b1.2
          generalize z.draw 2 = w at *
          generalize z.step 2 = z1 at *
          have f2 := next_eq (n := n) (t := z1) (m := q) (by omega) (by omega) (by omega)
          have b2 := z1.draw_in (m := q) (by omega)
          have d2 : (z1.step q).c ≤ z1.c + 1 := DS.step_c
          simp only [fdA, List.map_cons, List.map_nil, List.length_cons, List.length_nil, List.cons_append, List.nil_append, List.replicate_succ, List.replicate_zero, Nat.zero_add, Nat.reduceAdd, Nat.reduceSub, Nat.sub_self, if_true, if_false, Bool.false_eq_true, Bool.not_true, Bool.not_false, reduceCtorEq, ite_true, ite_false, List.getElem?_cons_zero, List.getElem?_cons_succ, List.set_cons_zero, List.set_cons_succ, LEN, Nat.reduceLeDiff, Option.map_some, fvA, List.length_map, List.length_set, decide_true, decide_false, fhA, List.mem_cons, List.not_mem_nil, or_false, or_true, Nat.reduceEqDiff, Nat.succ_ne_self, fxA, fwA, fyA, and_true, true_and, imp_self, true_imp_iff, false_imp_iff, implies_true, fzA, fzW, f1, v_pow12, iq, f2]
          refine ⟨⟨_, rfl, b2.1, by omega⟩, ?_⟩
          show (z1.step q).c ≤ v.c + 2 * (j + 1)
          omega
        · obtain ⟨is, rfl, hi⟩ := list_of D.int (P := fun i => 0 ≤ i ∧ i ≤ 1000000000000) po2
          rw [List.length_map, rngL_len] at lo2
          rw [rngL_len] at c3
          match is, lo2 with
          | [a, b], _ =>
            obtain ⟨x, y, es, xy, hx, hy⟩ := sort2 (a := a) (b := b)
            have ha := hi a (by simp)
            have hb := hi b (by simp)
            have so : sortD [.lst [.int a, .int b]] = some (.lst [.int x, .int y], true) := by
              have := v_sort_l (b := false) (a := [a, b])
              change sortBD false _ = some (D.lst ((sortUp [a, b]).map D.int), true) at this
              rw [es] at this
              exact this
            have i0 : ixD (.lst [.int x, .int y]) (.int 0) = some (.int x, false) := v_ix_l at0
            have i1 : ixD (.lst [.int x, .int y]) (.int 1) = some (.int y, false) := v_ix_l at1
            have ap := v_app (xs := gr.map grD) (d := .tup [tpI f, .int x, .int y]) (by rw [List.length_map]; simp [LEN]; omega)
            rw [show [a, b].map D.int = [.int a, .int b] from rfl]
            simp only [fdA, List.map_cons, List.map_nil, List.length_cons, List.length_nil, List.cons_append, List.nil_append, List.replicate_succ, List.replicate_zero, Nat.zero_add, Nat.reduceAdd, Nat.reduceSub, Nat.sub_self, if_true, if_false, Bool.false_eq_true, Bool.not_true, Bool.not_false, reduceCtorEq, ite_true, ite_false, List.getElem?_cons_zero, List.getElem?_cons_succ, List.set_cons_zero, List.set_cons_succ, LEN, Nat.reduceLeDiff, Option.map_some, fvA, List.length_map, List.length_set, decide_true, decide_false, fhA, List.mem_cons, List.not_mem_nil, or_false, or_true, Nat.reduceEqDiff, Nat.succ_ne_self, fxA, fwA, fyA, and_true, true_and, imp_self, true_imp_iff, false_imp_iff, implies_true, fzA, fzW, so, i0, i1, ap]
            refine ⟨gr ++ [⟨f, x, y⟩], _, _, _, by rw [List.map_append]; rfl, by rw [List.map_append, em]; rfl, fun g m => ?_, ?_⟩
            · rcases List.mem_append.mp m with m | m
              · exact hg2 g m
              · rw [List.mem_singleton.mp m]
                refine ⟨?_, xy, ?_⟩
                · rcases hx with rfl | rfl
                  · exact ha.1
                  · exact hb.1
                · rcases hy with rfl | rfl
                  · exact ha.2
                  · exact hb.2
            · rw [List.length_append, List.length_singleton]
              omega
      · rintro ⟨τ, v⟩ ⟨gr, x3, x4, x5, rfl, em, hg2, hv⟩
        have lg : gr.length = fs.length := by rw [← em, List.length_map]
        simp only at hv
        simp only [fdA, List.map_cons, List.map_nil, List.length_cons, List.length_nil, List.cons_append, List.nil_append, List.replicate_succ, List.replicate_zero, Nat.zero_add, Nat.reduceAdd, Nat.reduceSub, Nat.sub_self, if_true, if_false, Bool.false_eq_true, Bool.not_true, Bool.not_false, reduceCtorEq, ite_true, ite_false, List.getElem?_cons_zero, List.getElem?_cons_succ, List.set_cons_zero, List.set_cons_succ, LEN, Nat.reduceLeDiff, Option.map_some, fvA, List.length_map, List.length_set, decide_true, decide_false, fhA, List.mem_cons, List.not_mem_nil, or_false, or_true, Nat.reduceEqDiff, Nat.succ_ne_self, fxA, fwA, fyA, and_true, true_and, imp_self, true_imp_iff, false_imp_iff, implies_true, fzA, fzW]
        refine ⟨⟨gs, gr⟩, rfl, ⟨l1, l6, fun g m => hg g m, by show gr.length ≤ 8; omega, fun g m => ?_, ?_⟩, by omega⟩
        · have h1 := hf g.ms (by rw [← em]; exact List.mem_map.mpr ⟨g, m, rfl⟩)
          have h2 := hg2 g m
          exact ⟨h1.1, h1.2.1, h1.2.2.1, h2.1, h2.2.1, h2.2.2⟩
        · rw [← em] at hpw
          exact List.pairwise_map.mp hpw
  obtain ⟨o, t', e, s, rfl, h⟩ := key
  exact ⟨s, t', e, h⟩
end FD

namespace FD
open PySem PySem.Spec PyProof.Rows L2 TL
theorem q_item_line_eq {t : DS} {g : GC.Gs} (h : okG g) : FF_q_item_line [gD g] t = some (.ok (.str (itemT g)) false, t) := by
  have gl := h.1
  have jn := v_joinS (sep := sSp) (ys := itemW g) (b := 30) (itemW_len h) (by decide +kernel) (by unfold itemW; rw [List.length_cons, List.length_map]; omega)
  have cat : addD (.lst [.str sItem]) (.lst (g.map fun s => .str (stepT s))) = some (.lst ((itemW g).map D.str), true) := by
    rw [v_cat (by rw [List.length_map]; simp [LEN]; omega)]
    unfold itemW
    rw [List.map_cons, List.map_map]
    rfl
  refine w_eq ?_
  unfold FF_q_item_line fb_q_item_line gD
  simp only [fdA, List.map_cons, List.map_nil, List.length_cons, List.length_nil, List.cons_append, List.nil_append, List.replicate_succ, List.replicate_zero, Nat.zero_add, Nat.reduceAdd, Nat.reduceSub, Nat.sub_self, if_true, if_false, Bool.false_eq_true, Bool.not_true, Bool.not_false, reduceCtorEq, ite_true, ite_false, List.getElem?_cons_zero, List.getElem?_cons_succ, List.set_cons_zero, List.set_cons_succ, LEN, Nat.reduceLeDiff, Option.map_some, fvA, List.length_map, List.length_set, decide_true, decide_false, fhA, List.mem_cons, List.not_mem_nil, or_false, or_true, Nat.reduceEqDiff, Nat.succ_ne_self, fxA, fwA, fyA, and_true, true_and, imp_self, true_imp_iff, false_imp_iff, implies_true, fzA, fzW, q_mth1, q_mthK, q_mthG]
  refine ⟨by omega, w_map g stD rfl (fun s => .str (stepT s)) (fun s m => ?_) ?_⟩
  · have b := h.2 s m
    have l1 := strI_len (n := s.1) (by omega)
    have l2 := strI_len (n := s.2) (by omega)
    have a1 := v_addS (a := strI s.1) (b := sStar) (by rw [show sStar.length = 1 by decide +kernel]; omega)
    have a2 := v_addS (a := strI s.1 ++ sStar) (b := strI s.2) (by rw [app_len, show sStar.length = 1 by decide +kernel]; omega)
    unfold stD
    simp only [fdA, List.map_cons, List.map_nil, List.length_cons, List.length_nil, List.cons_append, List.nil_append, List.replicate_succ, List.replicate_zero, Nat.zero_add, Nat.reduceAdd, Nat.reduceSub, Nat.sub_self, if_true, if_false, Bool.false_eq_true, Bool.not_true, Bool.not_false, reduceCtorEq, ite_true, ite_false, List.getElem?_cons_zero, List.getElem?_cons_succ, List.set_cons_zero, List.set_cons_succ, LEN, Nat.reduceLeDiff, Option.map_some, fvA, List.length_map, List.length_set, decide_true, decide_false, fhA, List.mem_cons, List.not_mem_nil, or_false, or_true, Nat.reduceEqDiff, Nat.succ_ne_self, fxA, fwA, fyA, and_true, true_and, imp_self, true_imp_iff, false_imp_iff, implies_true, fzA, fzW, v_strI2 (n := s.1) (by omega), v_strI2 (n := s.2) (by omega), a1, a2]
    rfl
  · simp only [fdA, List.map_cons, List.map_nil, List.length_cons, List.length_nil, List.cons_append, List.nil_append, List.replicate_succ, List.replicate_zero, Nat.zero_add, Nat.reduceAdd, Nat.reduceSub, Nat.sub_self, if_true, if_false, Bool.false_eq_true, Bool.not_true, Bool.not_false, reduceCtorEq, ite_true, ite_false, List.getElem?_cons_zero, List.getElem?_cons_succ, List.set_cons_zero, List.set_cons_succ, LEN, Nat.reduceLeDiff, Option.map_some, fvA, List.length_map, List.length_set, decide_true, decide_false, fhA, List.mem_cons, List.not_mem_nil, or_false, or_true, Nat.reduceEqDiff, Nat.succ_ne_self, fxA, fwA, fyA, and_true, true_and, imp_self, true_imp_iff, false_imp_iff, implies_true, fzA, fzW, cat, jn]
    rfl
theorem q_text_eq {t : DS} {s : Sys} (h : bT s) : FF_q_text [syD s] t = some (.ok (.str (textT s)) false, t) := by
  obtain ⟨l1, l2⟩ := linesT_len h
  obtain ⟨h1, h2, h3, h4⟩ := id h
  have jn := v_joinS (sep := Str.ofString "") (ys := (linesT s).map (· ++ sLine)) (b := 1001) (fun y m => by
    obtain ⟨l, ml, rfl⟩ := List.mem_map.mp m
    have := l1 l ml
    rw [app_len, show sLine.length = 1 by decide +kernel]
    omega) (by decide +kernel) (by rw [List.length_map]; omega)
  rw [List.map_map] at jn
  change joinD (.str (Str.ofString "")) (.lst ((linesT s).map fun l => .str (l ++ sLine))) = _ at jn
  have x0 : ixD (syD s) (.int 0) = some (.tup (s.items.map gD), false) := v_ix_t at0
  have x1 : ixD (syD s) (.int 1) = some (.tup (s.groups.map grD), false) := v_ix_t at1
  refine w_eq ?_
  unfold FF_q_text fb_q_text
  simp only [fdA, List.map_cons, List.map_nil, List.length_cons, List.length_nil, List.cons_append, List.nil_append, List.replicate_succ, List.replicate_zero, Nat.zero_add, Nat.reduceAdd, Nat.reduceSub, Nat.sub_self, if_true, if_false, Bool.false_eq_true, Bool.not_true, Bool.not_false, reduceCtorEq, ite_true, ite_false, List.getElem?_cons_zero, List.getElem?_cons_succ, List.set_cons_zero, List.set_cons_succ, LEN, Nat.reduceLeDiff, Option.map_some, fvA, List.length_map, List.length_set, decide_true, decide_false, fhA, List.mem_cons, List.not_mem_nil, or_false, or_true, Nat.reduceEqDiff, Nat.succ_ne_self, fxA, fwA, fyA, and_true, true_and, imp_self, true_imp_iff, false_imp_iff, implies_true, fzA, fzW, x0]
  refine ⟨by omega, w_map s.items gD rfl (fun g => .str (itemT g)) (fun g m => ?_) ?_⟩
  · simp only [fdA, List.map_cons, List.map_nil, List.length_cons, List.length_nil, List.cons_append, List.nil_append, List.replicate_succ, List.replicate_zero, Nat.zero_add, Nat.reduceAdd, Nat.reduceSub, Nat.sub_self, if_true, if_false, Bool.false_eq_true, Bool.not_true, Bool.not_false, reduceCtorEq, ite_true, ite_false, List.getElem?_cons_zero, List.getElem?_cons_succ, List.set_cons_zero, List.set_cons_succ, LEN, Nat.reduceLeDiff, Option.map_some, fvA, List.length_map, List.length_set, decide_true, decide_false, fhA, List.mem_cons, List.not_mem_nil, or_false, or_true, Nat.reduceEqDiff, Nat.succ_ne_self, fxA, fwA, fyA, and_true, true_and, imp_self, true_imp_iff, false_imp_iff, implies_true, fzA, fzW, q_item_line_eq (t := t) (h3 g m)]
  · simp only [fdA, List.map_cons, List.map_nil, List.length_cons, List.length_nil, List.cons_append, List.nil_append, List.replicate_succ, List.replicate_zero, Nat.zero_add, Nat.reduceAdd, Nat.reduceSub, Nat.sub_self, if_true, if_false, Bool.false_eq_true, Bool.not_true, Bool.not_false, reduceCtorEq, ite_true, ite_false, List.getElem?_cons_zero, List.getElem?_cons_succ, List.set_cons_zero, List.set_cons_succ, LEN, Nat.reduceLeDiff, Option.map_some, fvA, List.length_map, List.length_set, decide_true, decide_false, fhA, List.mem_cons, List.not_mem_nil, or_false, or_true, Nat.reduceEqDiff, Nat.succ_ne_self, fxA, fwA, fyA, and_true, true_and, imp_self, true_imp_iff, false_imp_iff, implies_true, fzA, fzW, x1]
    refine w_forA s.groups grD rfl (fun l st => ∃ x2 x3 x4 x5 x7, st = ([.v (syD s), .o (.lst ((s.items.map itemT ++ l.map groupT).map D.str)), x2, x3, x4, x5, .no, x7], t)) ⟨.no, .no, .no, .no, .no, by simp [List.map_map, Function.comp_def]⟩ ?_ ?_
    · rintro l g r st el ⟨x2, x3, x4, x5, x7, rfl⟩
      have m : g ∈ s.groups := by rw [el]; simp
      have ok := h4 g m
      obtain ⟨r1, r2, r3, r4, r5, r6⟩ := id ok
      have ll : l.length ≤ 8 := by
        have := congrArg List.length el
        rw [List.length_append] at this
        omega
      have jc := v_joinS (sep := sComma) (ys := g.ms.map strI) (b := 14) (fun y my => by
          obtain ⟨n, mn, rfl⟩ := List.mem_map.mp my
          have := r2 n mn
          exact strI_len (by omega)) (by decide +kernel) (by rw [List.length_map]; omega)
      rw [List.map_map] at jc
      change joinD (.str sComma) (.lst (g.ms.map fun n => .str (strI n))) = _ at jc
      have jg := v_joinS (sep := sSp) (ys := groupW g) (b := 100) (groupW_len ok) (by decide +kernel) (by show 101 * 4 ≤ _; decide)
      change joinD (.str sSp) (.lst [.str sGroup, .str (Txt.join sComma (g.ms.map strI)), .str (strI g.lo), .str (strI g.hi)]) = some (.str (groupT g), false) at jg
      unfold grD tpI
      simp only [fdA, List.map_cons, List.map_nil, List.length_cons, List.length_nil, List.cons_append, List.nil_append, List.replicate_succ, List.replicate_zero, Nat.zero_add, Nat.reduceAdd, Nat.reduceSub, Nat.sub_self, if_true, if_false, Bool.false_eq_true, Bool.not_true, Bool.not_false, reduceCtorEq, ite_true, ite_false, List.getElem?_cons_zero, List.getElem?_cons_succ, List.set_cons_zero, List.set_cons_succ, LEN, Nat.reduceLeDiff, Option.map_some, fvA, List.length_map, List.length_set, decide_true, decide_false, fhA, List.mem_cons, List.not_mem_nil, or_false, or_true, Nat.reduceEqDiff, Nat.succ_ne_self, fxA, fwA, fyA, and_true, true_and, imp_self, true_imp_iff, false_imp_iff, implies_true, fzA, fzW, q_mth1, q_mthK, q_mthG, v_strI2 (n := g.lo) (by omega), v_strI2 (n := g.hi) (by omega)]
      have va := v_app (xs := (s.items.map itemT ++ l.map groupT).map D.str) (d := .str (groupT g)) (by rw [List.length_map, List.length_append, List.length_map, List.length_map]; simp [LEN]; omega)
      refine ⟨by omega, w_map g.ms D.int rfl (fun n => .str (strI n)) (fun n m => ?_) ?_⟩
      · have := r2 n m
        simp only [fdA, List.map_cons, List.map_nil, List.length_cons, List.length_nil, List.cons_append, List.nil_append, List.replicate_succ, List.replicate_zero, Nat.zero_add, Nat.reduceAdd, Nat.reduceSub, Nat.sub_self, if_true, if_false, Bool.false_eq_true, Bool.not_true, Bool.not_false, reduceCtorEq, ite_true, ite_false, List.getElem?_cons_zero, List.getElem?_cons_succ, List.set_cons_zero, List.set_cons_succ, LEN, Nat.reduceLeDiff, Option.map_some, fvA, List.length_map, List.length_set, decide_true, decide_false, fhA, List.mem_cons, List.not_mem_nil, or_false, or_true, Nat.reduceEqDiff, Nat.succ_ne_self, fxA, fwA, fyA, and_true, true_and, imp_self, true_imp_iff, false_imp_iff, implies_true, fzA, fzW, v_strI2 (n := n) (by omega)]
      · simp only [fdA, List.map_cons, List.map_nil, List.length_cons, List.length_nil, List.cons_append, List.nil_append, List.replicate_succ, List.replicate_zero, Nat.zero_add, Nat.reduceAdd, Nat.reduceSub, Nat.sub_self, if_true, if_false, Bool.false_eq_true, Bool.not_true, Bool.not_false, reduceCtorEq, ite_true, ite_false, List.getElem?_cons_zero, List.getElem?_cons_succ, List.set_cons_zero, List.set_cons_succ, LEN, Nat.reduceLeDiff, Option.map_some, fvA, List.length_map, List.length_set, decide_true, decide_false, fhA, List.mem_cons, List.not_mem_nil, or_false, or_true, Nat.reduceEqDiff, Nat.succ_ne_self, fxA, fwA, fyA, and_true, true_and, imp_self, true_imp_iff, false_imp_iff, implies_true, fzA, fzW, jc, jg, va, q_mth1, q_mthK, q_mthG]
        exact ⟨.v (.tup (g.ms.map D.int)), .v (.int g.lo), .v (.int g.hi), x5, x7, by simp⟩
    · rintro st ⟨x2, x3, x4, x5, x7, rfl⟩
      simp only [fdA, List.map_cons, List.map_nil, List.length_cons, List.length_nil, List.cons_append, List.nil_append, List.replicate_succ, List.replicate_zero, Nat.zero_add, Nat.reduceAdd, Nat.reduceSub, Nat.sub_self, if_true, if_false, Bool.false_eq_true, Bool.not_true, Bool.not_false, reduceCtorEq, ite_true, ite_false, List.getElem?_cons_zero, List.getElem?_cons_succ, List.set_cons_zero, List.set_cons_succ, LEN, Nat.reduceLeDiff, Option.map_some, fvA, List.length_map, List.length_set, decide_true, decide_false, fhA, List.mem_cons, List.not_mem_nil, or_false, or_true, Nat.reduceEqDiff, Nat.succ_ne_self, fxA, fwA, fyA, and_true, true_and, imp_self, true_imp_iff, false_imp_iff, implies_true, fzA, fzW, q_mth1, q_mthK, q_mthG]
      refine ⟨by rw [List.length_append, List.length_map, List.length_map]; omega, w_map (linesT s) D.str rfl (fun l => .str (l ++ sLine)) (fun l m => ?_) ?_⟩
      · have := l1 l m
        simp only [fdA, List.map_cons, List.map_nil, List.length_cons, List.length_nil, List.cons_append, List.nil_append, List.replicate_succ, List.replicate_zero, Nat.zero_add, Nat.reduceAdd, Nat.reduceSub, Nat.sub_self, if_true, if_false, Bool.false_eq_true, Bool.not_true, Bool.not_false, reduceCtorEq, ite_true, ite_false, List.getElem?_cons_zero, List.getElem?_cons_succ, List.set_cons_zero, List.set_cons_succ, LEN, Nat.reduceLeDiff, Option.map_some, fvA, List.length_map, List.length_set, decide_true, decide_false, fhA, List.mem_cons, List.not_mem_nil, or_false, or_true, Nat.reduceEqDiff, Nat.succ_ne_self, fxA, fwA, fyA, and_true, true_and, imp_self, true_imp_iff, false_imp_iff, implies_true, fzA, fzW, v_addS (a := l) (b := sLine) (by rw [show sLine.length = 1 by decide +kernel]; omega)]
      · simp only [fdA, List.map_cons, List.map_nil, List.length_cons, List.length_nil, List.cons_append, List.nil_append, List.replicate_succ, List.replicate_zero, Nat.zero_add, Nat.reduceAdd, Nat.reduceSub, Nat.sub_self, if_true, if_false, Bool.false_eq_true, Bool.not_true, Bool.not_false, reduceCtorEq, ite_true, ite_false, List.getElem?_cons_zero, List.getElem?_cons_succ, List.set_cons_zero, List.set_cons_succ, LEN, Nat.reduceLeDiff, Option.map_some, fvA, List.length_map, List.length_set, decide_true, decide_false, fhA, List.mem_cons, List.not_mem_nil, or_false, or_true, Nat.reduceEqDiff, Nat.succ_ne_self, fxA, fwA, fyA, and_true, true_and, imp_self, true_imp_iff, false_imp_iff, implies_true, fzA, fzW, jn]
        rfl
end FD

namespace FD
open PySem PySem.Spec PyProof.Rows L2
def topS (i : Nat) : Stmt := PySem.Challenge.pw_groupcaps_k60_system_texts.main.body.getD i (.Pass ⟨0, 0, 0, 0⟩)
abbrev s_is_between : Stmt := topS 9
abbrev n_is_between : List Str := ["value", "least", "most"]
abbrev p_is_between : List Str := ["value", "least", "most"]
theorem sc_is_between : FnScope n_is_between p_is_between (defScope s_is_between) := ⟨rfl, rfl, rfl, by decide +kernel, rfl, by decide +kernel, by decide +kernel⟩
abbrev s_is_tuple_of : Stmt := topS 10
abbrev n_is_tuple_of : List Str := ["value", "length"]
abbrev p_is_tuple_of : List Str := ["value", "length"]
theorem sc_is_tuple_of : FnScope n_is_tuple_of p_is_tuple_of (defScope s_is_tuple_of) := ⟨rfl, rfl, rfl, by decide +kernel, rfl, by decide +kernel, by decide +kernel⟩
abbrev s_is_choice : Stmt := topS 11
abbrev n_is_choice : List Str := ["value", "many", "least", "number"]
abbrev p_is_choice : List Str := ["value", "many"]
theorem sc_is_choice : FnScope n_is_choice p_is_choice (defScope s_is_choice) := ⟨rfl, rfl, rfl, by decide +kernel, rfl, by decide +kernel, by decide +kernel⟩
abbrev s_is_step : Stmt := topS 12
abbrev n_is_step : List Str := ["value", "count", "gain"]
abbrev p_is_step : List Str := ["value"]
theorem sc_is_step : FnScope n_is_step p_is_step (defScope s_is_step) := ⟨rfl, rfl, rfl, by decide +kernel, rfl, by decide +kernel, by decide +kernel⟩
abbrev s_is_gains : Stmt := topS 13
abbrev n_is_gains : List Str := ["value", "step", "later"]
abbrev p_is_gains : List Str := ["value"]
theorem sc_is_gains : FnScope n_is_gains p_is_gains (defScope s_is_gains) := ⟨rfl, rfl, rfl, by decide +kernel, rfl, by decide +kernel, by decide +kernel⟩
abbrev s_capacity_of_gains : Stmt := topS 14
abbrev n_capacity_of_gains : List Str := ["gains", "count", "gain"]
abbrev p_capacity_of_gains : List Str := ["gains"]
theorem sc_capacity_of_gains : FnScope n_capacity_of_gains p_capacity_of_gains (defScope s_capacity_of_gains) := ⟨rfl, rfl, rfl, by decide +kernel, rfl, by decide +kernel, by decide +kernel⟩
abbrev s_are_limits : Stmt := topS 15
abbrev n_are_limits : List Str := ["least", "most"]
abbrev p_are_limits : List Str := ["least", "most"]
theorem sc_are_limits : FnScope n_are_limits p_are_limits (defScope s_are_limits) := ⟨rfl, rfl, rfl, by decide +kernel, rfl, by decide +kernel, by decide +kernel⟩
abbrev s_is_group : Stmt := topS 16
abbrev n_is_group : List Str := ["value", "many", "members", "least", "most"]
abbrev p_is_group : List Str := ["value", "many"]
theorem sc_is_group : FnScope n_is_group p_is_group (defScope s_is_group) := ⟨rfl, rfl, rfl, by decide +kernel, rfl, by decide +kernel, by decide +kernel⟩
abbrev s_are_compatible : Stmt := topS 17
abbrev n_are_compatible : List Str := ["members", "others", "common"]
abbrev p_are_compatible : List Str := ["members", "others"]
theorem sc_are_compatible : FnScope n_are_compatible p_are_compatible (defScope s_are_compatible) := ⟨rfl, rfl, rfl, by decide +kernel, rfl, by decide +kernel, by decide +kernel⟩
abbrev s_may_join : Stmt := topS 18
abbrev n_may_join : List Str := ["value", "groups", "many", "group"]
abbrev p_may_join : List Str := ["value", "groups", "many"]
theorem sc_may_join : FnScope n_may_join p_may_join (defScope s_may_join) := ⟨rfl, rfl, rfl, by decide +kernel, rfl, by decide +kernel, by decide +kernel⟩
abbrev s_spaced : Stmt := topS 21
abbrev n_spaced : List Str := ["values", "value"]
abbrev p_spaced : List Str := ["values"]
theorem sc_spaced : FnScope n_spaced p_spaced (defScope s_spaced) := ⟨rfl, rfl, rfl, by decide +kernel, rfl, by decide +kernel, by decide +kernel⟩
abbrev s_item_line : Stmt := topS 22
abbrev n_item_line : List Str := ["gains", "count", "gain"]
abbrev p_item_line : List Str := ["gains"]
theorem sc_item_line : FnScope n_item_line p_item_line (defScope s_item_line) := ⟨rfl, rfl, rfl, by decide +kernel, rfl, by decide +kernel, by decide +kernel⟩
abbrev s_group_line : Stmt := topS 23
abbrev n_group_line : List Str := ["group", "members", "least", "most", "item"]
abbrev p_group_line : List Str := ["group"]
theorem sc_group_line : FnScope n_group_line p_group_line (defScope s_group_line) := ⟨rfl, rfl, rfl, by decide +kernel, rfl, by decide +kernel, by decide +kernel⟩
abbrev s_format_system : Stmt := topS 24
abbrev n_format_system : List Str := ["system", "items", "groups", "lines", "gains", "group", "line"]
abbrev p_format_system : List Str := ["system"]
theorem sc_format_system : FnScope n_format_system p_format_system (defScope s_format_system) := ⟨rfl, rfl, rfl, by decide +kernel, rfl, by decide +kernel, by decide +kernel⟩
abbrev s_number_in : Stmt := topS 25
abbrev n_number_in : List Str := ["text"]
abbrev p_number_in : List Str := ["text"]
theorem sc_number_in : FnScope n_number_in p_number_in (defScope s_number_in) := ⟨rfl, rfl, rfl, by decide +kernel, rfl, by decide +kernel, by decide +kernel⟩
abbrev s_signed_in : Stmt := topS 26
abbrev n_signed_in : List Str := ["text", "size"]
abbrev p_signed_in : List Str := ["text"]
theorem sc_signed_in : FnScope n_signed_in p_signed_in (defScope s_signed_in) := ⟨rfl, rfl, rfl, by decide +kernel, rfl, by decide +kernel, by decide +kernel⟩
abbrev s_numbers_in : Stmt := topS 27
abbrev n_numbers_in : List Str := ["text", "numbers", "word"]
abbrev p_numbers_in : List Str := ["text"]
theorem sc_numbers_in : FnScope n_numbers_in p_numbers_in (defScope s_numbers_in) := ⟨rfl, rfl, rfl, by decide +kernel, rfl, by decide +kernel, by decide +kernel⟩
abbrev s_step_in : Stmt := topS 28
abbrev n_step_in : List Str := ["word", "count", "star", "gain", "step"]
abbrev p_step_in : List Str := ["word"]
theorem sc_step_in : FnScope n_step_in p_step_in (defScope s_step_in) := ⟨rfl, rfl, rfl, by decide +kernel, rfl, by decide +kernel, by decide +kernel⟩
abbrev s_steps_in : Stmt := topS 29
abbrev n_steps_in : List Str := ["words", "steps", "word"]
abbrev p_steps_in : List Str := ["words"]
theorem sc_steps_in : FnScope n_steps_in p_steps_in (defScope s_steps_in) := ⟨rfl, rfl, rfl, by decide +kernel, rfl, by decide +kernel, by decide +kernel⟩
abbrev s_group_in : Stmt := topS 30
abbrev n_group_in : List Str := ["words", "listed", "least", "most", "group"]
abbrev p_group_in : List Str := ["words"]
theorem sc_group_in : FnScope n_group_in p_group_in (defScope s_group_in) := ⟨rfl, rfl, rfl, by decide +kernel, rfl, by decide +kernel, by decide +kernel⟩
abbrev s_with_line : Stmt := topS 31
abbrev n_with_line : List Str := ["system", "line", "items", "groups", "word", "rest", "gains", "group"]
abbrev p_with_line : List Str := ["system", "line"]
theorem sc_with_line : FnScope n_with_line p_with_line (defScope s_with_line) := ⟨rfl, rfl, rfl, by decide +kernel, rfl, by decide +kernel, by decide +kernel⟩
abbrev s_parse_system : Stmt := topS 32
abbrev n_parse_system : List Str := ["value", "lines", "system", "index", "line"]
abbrev p_parse_system : List Str := ["value"]
theorem sc_parse_system : FnScope n_parse_system p_parse_system (defScope s_parse_system) := ⟨rfl, rfl, rfl, by decide +kernel, rfl, by decide +kernel, by decide +kernel⟩
abbrev s_q_deck : Stmt := topS 34
abbrev n_q_deck : List Str := ["_law_script", "_law_cells", "_law_cell"]
abbrev p_q_deck : List Str := ["_law_script"]
theorem sc_q_deck : FnScope n_q_deck p_q_deck (defScope s_q_deck) := ⟨rfl, rfl, rfl, by decide +kernel, rfl, by decide +kernel, by decide +kernel⟩
abbrev s_q_next : Stmt := topS 35
abbrev n_q_next : List Str := ["_law_deck_here", "_law_many", "_law_rest", "_law_cell", "_law_pick"]
abbrev p_q_next : List Str := ["_law_deck_here", "_law_many"]
theorem sc_q_next : FnScope n_q_next p_q_next (defScope s_q_next) := ⟨rfl, rfl, rfl, by decide +kernel, rfl, by decide +kernel, by decide +kernel⟩
abbrev s_q_same : Stmt := topS 36
abbrev n_q_same : List Str := ["_law_found", "_law_due", "_law_k"]
abbrev p_q_same : List Str := ["_law_found", "_law_due"]
theorem sc_q_same : FnScope n_q_same p_q_same (defScope s_q_same) := ⟨rfl, rfl, rfl, by decide +kernel, rfl, by decide +kernel, by decide +kernel⟩
abbrev s_q_shuffled : Stmt := topS 37
abbrev n_q_shuffled : List Str := ["_law_deck_here", "_law_items", "_law_left", "_law_found"]
abbrev p_q_shuffled : List Str := ["_law_deck_here", "_law_items"]
theorem sc_q_shuffled : FnScope n_q_shuffled p_q_shuffled (defScope s_q_shuffled) := ⟨rfl, rfl, rfl, by decide +kernel, rfl, by decide +kernel, by decide +kernel⟩
abbrev s_q_nested : Stmt := topS 38
abbrev n_q_nested : List Str := ["_law_deck_here", "_law_count", "_law_order", "_law_spans", "_law_found", "_law_low", "_law_high", "_law_cut"]
abbrev p_q_nested : List Str := ["_law_deck_here", "_law_count"]
theorem sc_q_nested : FnScope n_q_nested p_q_nested (defScope s_q_nested) := ⟨rfl, rfl, rfl, by decide +kernel, rfl, by decide +kernel, by decide +kernel⟩
abbrev s_q_wide_gains : Stmt := topS 39
abbrev n_q_wide_gains : List Str := ["_law_deck_here", "_law_many", "_law_gain", "_law_found", "_law_k"]
abbrev p_q_wide_gains : List Str := ["_law_deck_here"]
theorem sc_q_wide_gains : FnScope n_q_wide_gains p_q_wide_gains (defScope s_q_wide_gains) := ⟨rfl, rfl, rfl, by decide +kernel, rfl, by decide +kernel, by decide +kernel⟩
abbrev s_q_wide_system : Stmt := topS 40
abbrev n_q_wide_system : List Str := ["_law_deck_here", "_law_items", "_law_groups", "_law_members", "_law_ends", "_law_k"]
abbrev p_q_wide_system : List Str := ["_law_deck_here"]
theorem sc_q_wide_system : FnScope n_q_wide_system p_q_wide_system (defScope s_q_wide_system) := ⟨rfl, rfl, rfl, by decide +kernel, rfl, by decide +kernel, by decide +kernel⟩
abbrev s_q_item_line : Stmt := topS 41
abbrev n_q_item_line : List Str := ["_law_gains", "_law_count", "_law_gain"]
abbrev p_q_item_line : List Str := ["_law_gains"]
theorem sc_q_item_line : FnScope n_q_item_line p_q_item_line (defScope s_q_item_line) := ⟨rfl, rfl, rfl, by decide +kernel, rfl, by decide +kernel, by decide +kernel⟩
abbrev s_q_text : Stmt := topS 42
abbrev n_q_text : List Str := ["_law_system", "_law_lines", "_law_members", "_law_least", "_law_most", "_law_gains", "_law_line", "_law_item"]
abbrev p_q_text : List Str := ["_law_system"]
theorem sc_q_text : FnScope n_q_text p_q_text (defScope s_q_text) := ⟨rfl, rfl, rfl, by decide +kernel, rfl, by decide +kernel, by decide +kernel⟩
abbrev s_law : Stmt := topS 43
abbrev n_law : List Str := ["_law_script", "_law_deck_here", "_law_some", "_law_system", "_law_kept", "_law_text_here", "_law_turn"]
abbrev p_law : List Str := ["_law_script"]
theorem sc_law : FnScope n_law p_law (defScope s_law) := ⟨rfl, rfl, rfl, by decide +kernel, rfl, by decide +kernel, by decide +kernel⟩
abbrev sI_BadText : Stmt := inClass (topS 2) 0
theorem scI_BadText : FnScope ["self", "line"] ["self", "line"] (defScope sI_BadText) := ⟨rfl, rfl, rfl, by decide +kernel, rfl, by decide +kernel, by decide +kernel⟩
set_option maxHeartbeats 4000000 in
/-- what the top leaves -/
structure Txt (K : PySem.W.Frag) (mg : Str → Option Value) where
  f_is_between : Df K mg "is_between" s_is_between p_is_between
  f_is_tuple_of : Df K mg "is_tuple_of" s_is_tuple_of p_is_tuple_of
  f_is_choice : Df K mg "is_choice" s_is_choice p_is_choice
  f_is_step : Df K mg "is_step" s_is_step p_is_step
  f_is_gains : Df K mg "is_gains" s_is_gains p_is_gains
  f_capacity_of_gains : Df K mg "capacity_of_gains" s_capacity_of_gains p_capacity_of_gains
  f_are_limits : Df K mg "are_limits" s_are_limits p_are_limits
  f_is_group : Df K mg "is_group" s_is_group p_is_group
  f_are_compatible : Df K mg "are_compatible" s_are_compatible p_are_compatible
  f_may_join : Df K mg "may_join" s_may_join p_may_join
  f_spaced : Df K mg "spaced" s_spaced p_spaced
  f_item_line : Df K mg "item_line" s_item_line p_item_line
  f_group_line : Df K mg "group_line" s_group_line p_group_line
  f_format_system : Df K mg "format_system" s_format_system p_format_system
  f_number_in : Df K mg "number_in" s_number_in p_number_in
  f_signed_in : Df K mg "signed_in" s_signed_in p_signed_in
  f_numbers_in : Df K mg "numbers_in" s_numbers_in p_numbers_in
  f_step_in : Df K mg "step_in" s_step_in p_step_in
  f_steps_in : Df K mg "steps_in" s_steps_in p_steps_in
  f_group_in : Df K mg "group_in" s_group_in p_group_in
  f_with_line : Df K mg "with_line" s_with_line p_with_line
  f_parse_system : Df K mg "parse_system" s_parse_system p_parse_system
  f_q_deck : Df K mg "_law_deck" s_q_deck p_q_deck
  f_q_next : Df K mg "_law_next" s_q_next p_q_next
  f_q_same : Df K mg "_law_same" s_q_same p_q_same
  f_q_shuffled : Df K mg "_law_shuffled" s_q_shuffled p_q_shuffled
  f_q_nested : Df K mg "_law_nested" s_q_nested p_q_nested
  f_q_wide_gains : Df K mg "_law_wide_gains" s_q_wide_gains p_q_wide_gains
  f_q_wide_system : Df K mg "_law_wide_system" s_q_wide_system p_q_wide_system
  f_q_item_line : Df K mg "_law_item_line" s_q_item_line p_q_item_line
  f_q_text : Df K mg "_law_text" s_q_text p_q_text
  f_law : Df K mg "law" s_law p_law
  e_CapError : PlainC K mg "CapError"
  e_BadText : ErrC K mg "BadText" "BadText.__init__" "line" sI_BadText
  m_sum : mg "sum" = none
  m_len : mg "len" = none
  m_all : mg "all" = none
  m_int : mg "int" = none
  m_enumerate : mg "enumerate" = none
  m_isinstance : mg "isinstance" = none
  m_dict : mg "dict" = none
  m_str : mg "str" = none
  m_range : mg "range" = none
  m_tuple : mg "tuple" = none
  m_bool : mg "bool" = none
  m_abs : mg "abs" = none
  m_list : mg "list" = none
  m_sorted : mg "sorted" = none
  m_set : mg "set" = none
  m_min : mg "min" = none
  m_repr : mg "repr" = none
  m_zip : mg "zip" = none
  t_MAX_ITEMS : Tok
  g_MAX_ITEMS : mg "MAX_ITEMS" = some (.int (6) t_MAX_ITEMS)
  t_MAX_STEPS : Tok
  g_MAX_STEPS : mg "MAX_STEPS" = some (.int (5) t_MAX_STEPS)
  t_MAX_GROUPS : Tok
  g_MAX_GROUPS : mg "MAX_GROUPS" = some (.int (8) t_MAX_GROUPS)
  t_LIMIT : Tok
  g_LIMIT : mg "LIMIT" = some (.int (1000000000000) t_LIMIT)
  t_MAX_GAIN : Tok
  g_MAX_GAIN : mg "MAX_GAIN" = some (.int (1000000) t_MAX_GAIN)
  t_MAX_DIGITS : Tok
  g_MAX_DIGITS : mg "MAX_DIGITS" = some (.int (13) t_MAX_DIGITS)
section
variable {K : PySem.W.Frag} {mg : Str → Option Value}
abbrev Txt.a_is_between (T : Txt K mg) : Addr := T.f_is_between.a
abbrev Txt.d_is_between (T : Txt K mg) : FuncData := T.f_is_between.d
theorem Txt.F_is_between (T : Txt K mg) : Fun K "is_between" "is_between" s_is_between T.a_is_between T.d_is_between := T.f_is_between.F
theorem Txt.b_is_between (T : Txt K mg) : Binds K T.d_is_between p_is_between [] := T.f_is_between.b
theorem Txt.g_is_between (T : Txt K mg) : mg "is_between" = some (.ref T.a_is_between) := T.f_is_between.g
abbrev Txt.a_is_tuple_of (T : Txt K mg) : Addr := T.f_is_tuple_of.a
abbrev Txt.d_is_tuple_of (T : Txt K mg) : FuncData := T.f_is_tuple_of.d
theorem Txt.F_is_tuple_of (T : Txt K mg) : Fun K "is_tuple_of" "is_tuple_of" s_is_tuple_of T.a_is_tuple_of T.d_is_tuple_of := T.f_is_tuple_of.F
theorem Txt.b_is_tuple_of (T : Txt K mg) : Binds K T.d_is_tuple_of p_is_tuple_of [] := T.f_is_tuple_of.b
theorem Txt.g_is_tuple_of (T : Txt K mg) : mg "is_tuple_of" = some (.ref T.a_is_tuple_of) := T.f_is_tuple_of.g
abbrev Txt.a_is_choice (T : Txt K mg) : Addr := T.f_is_choice.a
abbrev Txt.d_is_choice (T : Txt K mg) : FuncData := T.f_is_choice.d
theorem Txt.F_is_choice (T : Txt K mg) : Fun K "is_choice" "is_choice" s_is_choice T.a_is_choice T.d_is_choice := T.f_is_choice.F
theorem Txt.b_is_choice (T : Txt K mg) : Binds K T.d_is_choice p_is_choice [] := T.f_is_choice.b
theorem Txt.g_is_choice (T : Txt K mg) : mg "is_choice" = some (.ref T.a_is_choice) := T.f_is_choice.g
abbrev Txt.a_is_step (T : Txt K mg) : Addr := T.f_is_step.a
abbrev Txt.d_is_step (T : Txt K mg) : FuncData := T.f_is_step.d
theorem Txt.F_is_step (T : Txt K mg) : Fun K "is_step" "is_step" s_is_step T.a_is_step T.d_is_step := T.f_is_step.F
theorem Txt.b_is_step (T : Txt K mg) : Binds K T.d_is_step p_is_step [] := T.f_is_step.b
theorem Txt.g_is_step (T : Txt K mg) : mg "is_step" = some (.ref T.a_is_step) := T.f_is_step.g
abbrev Txt.a_is_gains (T : Txt K mg) : Addr := T.f_is_gains.a
abbrev Txt.d_is_gains (T : Txt K mg) : FuncData := T.f_is_gains.d
theorem Txt.F_is_gains (T : Txt K mg) : Fun K "is_gains" "is_gains" s_is_gains T.a_is_gains T.d_is_gains := T.f_is_gains.F
theorem Txt.b_is_gains (T : Txt K mg) : Binds K T.d_is_gains p_is_gains [] := T.f_is_gains.b
theorem Txt.g_is_gains (T : Txt K mg) : mg "is_gains" = some (.ref T.a_is_gains) := T.f_is_gains.g
abbrev Txt.a_capacity_of_gains (T : Txt K mg) : Addr := T.f_capacity_of_gains.a
abbrev Txt.d_capacity_of_gains (T : Txt K mg) : FuncData := T.f_capacity_of_gains.d
theorem Txt.F_capacity_of_gains (T : Txt K mg) : Fun K "capacity_of_gains" "capacity_of_gains" s_capacity_of_gains T.a_capacity_of_gains T.d_capacity_of_gains := T.f_capacity_of_gains.F
theorem Txt.b_capacity_of_gains (T : Txt K mg) : Binds K T.d_capacity_of_gains p_capacity_of_gains [] := T.f_capacity_of_gains.b
theorem Txt.g_capacity_of_gains (T : Txt K mg) : mg "capacity_of_gains" = some (.ref T.a_capacity_of_gains) := T.f_capacity_of_gains.g
abbrev Txt.a_are_limits (T : Txt K mg) : Addr := T.f_are_limits.a
abbrev Txt.d_are_limits (T : Txt K mg) : FuncData := T.f_are_limits.d
theorem Txt.F_are_limits (T : Txt K mg) : Fun K "are_limits" "are_limits" s_are_limits T.a_are_limits T.d_are_limits := T.f_are_limits.F
theorem Txt.b_are_limits (T : Txt K mg) : Binds K T.d_are_limits p_are_limits [] := T.f_are_limits.b
theorem Txt.g_are_limits (T : Txt K mg) : mg "are_limits" = some (.ref T.a_are_limits) := T.f_are_limits.g
abbrev Txt.a_is_group (T : Txt K mg) : Addr := T.f_is_group.a
abbrev Txt.d_is_group (T : Txt K mg) : FuncData := T.f_is_group.d
theorem Txt.F_is_group (T : Txt K mg) : Fun K "is_group" "is_group" s_is_group T.a_is_group T.d_is_group := T.f_is_group.F
theorem Txt.b_is_group (T : Txt K mg) : Binds K T.d_is_group p_is_group [] := T.f_is_group.b
theorem Txt.g_is_group (T : Txt K mg) : mg "is_group" = some (.ref T.a_is_group) := T.f_is_group.g
abbrev Txt.a_are_compatible (T : Txt K mg) : Addr := T.f_are_compatible.a
abbrev Txt.d_are_compatible (T : Txt K mg) : FuncData := T.f_are_compatible.d
theorem Txt.F_are_compatible (T : Txt K mg) : Fun K "are_compatible" "are_compatible" s_are_compatible T.a_are_compatible T.d_are_compatible := T.f_are_compatible.F
theorem Txt.b_are_compatible (T : Txt K mg) : Binds K T.d_are_compatible p_are_compatible [] := T.f_are_compatible.b
theorem Txt.g_are_compatible (T : Txt K mg) : mg "are_compatible" = some (.ref T.a_are_compatible) := T.f_are_compatible.g
abbrev Txt.a_may_join (T : Txt K mg) : Addr := T.f_may_join.a
abbrev Txt.d_may_join (T : Txt K mg) : FuncData := T.f_may_join.d
theorem Txt.F_may_join (T : Txt K mg) : Fun K "may_join" "may_join" s_may_join T.a_may_join T.d_may_join := T.f_may_join.F
theorem Txt.b_may_join (T : Txt K mg) : Binds K T.d_may_join p_may_join [] := T.f_may_join.b
theorem Txt.g_may_join (T : Txt K mg) : mg "may_join" = some (.ref T.a_may_join) := T.f_may_join.g
abbrev Txt.a_spaced (T : Txt K mg) : Addr := T.f_spaced.a
abbrev Txt.d_spaced (T : Txt K mg) : FuncData := T.f_spaced.d
theorem Txt.F_spaced (T : Txt K mg) : Fun K "spaced" "spaced" s_spaced T.a_spaced T.d_spaced := T.f_spaced.F
theorem Txt.b_spaced (T : Txt K mg) : Binds K T.d_spaced p_spaced [] := T.f_spaced.b
theorem Txt.g_spaced (T : Txt K mg) : mg "spaced" = some (.ref T.a_spaced) := T.f_spaced.g
abbrev Txt.a_item_line (T : Txt K mg) : Addr := T.f_item_line.a
abbrev Txt.d_item_line (T : Txt K mg) : FuncData := T.f_item_line.d
theorem Txt.F_item_line (T : Txt K mg) : Fun K "item_line" "item_line" s_item_line T.a_item_line T.d_item_line := T.f_item_line.F
theorem Txt.b_item_line (T : Txt K mg) : Binds K T.d_item_line p_item_line [] := T.f_item_line.b
theorem Txt.g_item_line (T : Txt K mg) : mg "item_line" = some (.ref T.a_item_line) := T.f_item_line.g
abbrev Txt.a_group_line (T : Txt K mg) : Addr := T.f_group_line.a
abbrev Txt.d_group_line (T : Txt K mg) : FuncData := T.f_group_line.d
theorem Txt.F_group_line (T : Txt K mg) : Fun K "group_line" "group_line" s_group_line T.a_group_line T.d_group_line := T.f_group_line.F
theorem Txt.b_group_line (T : Txt K mg) : Binds K T.d_group_line p_group_line [] := T.f_group_line.b
theorem Txt.g_group_line (T : Txt K mg) : mg "group_line" = some (.ref T.a_group_line) := T.f_group_line.g
abbrev Txt.a_format_system (T : Txt K mg) : Addr := T.f_format_system.a
abbrev Txt.d_format_system (T : Txt K mg) : FuncData := T.f_format_system.d
theorem Txt.F_format_system (T : Txt K mg) : Fun K "format_system" "format_system" s_format_system T.a_format_system T.d_format_system := T.f_format_system.F
theorem Txt.b_format_system (T : Txt K mg) : Binds K T.d_format_system p_format_system [] := T.f_format_system.b
theorem Txt.g_format_system (T : Txt K mg) : mg "format_system" = some (.ref T.a_format_system) := T.f_format_system.g
abbrev Txt.a_number_in (T : Txt K mg) : Addr := T.f_number_in.a
abbrev Txt.d_number_in (T : Txt K mg) : FuncData := T.f_number_in.d
theorem Txt.F_number_in (T : Txt K mg) : Fun K "number_in" "number_in" s_number_in T.a_number_in T.d_number_in := T.f_number_in.F
theorem Txt.b_number_in (T : Txt K mg) : Binds K T.d_number_in p_number_in [] := T.f_number_in.b
theorem Txt.g_number_in (T : Txt K mg) : mg "number_in" = some (.ref T.a_number_in) := T.f_number_in.g
abbrev Txt.a_signed_in (T : Txt K mg) : Addr := T.f_signed_in.a
abbrev Txt.d_signed_in (T : Txt K mg) : FuncData := T.f_signed_in.d
theorem Txt.F_signed_in (T : Txt K mg) : Fun K "signed_in" "signed_in" s_signed_in T.a_signed_in T.d_signed_in := T.f_signed_in.F
theorem Txt.b_signed_in (T : Txt K mg) : Binds K T.d_signed_in p_signed_in [] := T.f_signed_in.b
theorem Txt.g_signed_in (T : Txt K mg) : mg "signed_in" = some (.ref T.a_signed_in) := T.f_signed_in.g
abbrev Txt.a_numbers_in (T : Txt K mg) : Addr := T.f_numbers_in.a
abbrev Txt.d_numbers_in (T : Txt K mg) : FuncData := T.f_numbers_in.d
theorem Txt.F_numbers_in (T : Txt K mg) : Fun K "numbers_in" "numbers_in" s_numbers_in T.a_numbers_in T.d_numbers_in := T.f_numbers_in.F
theorem Txt.b_numbers_in (T : Txt K mg) : Binds K T.d_numbers_in p_numbers_in [] := T.f_numbers_in.b
theorem Txt.g_numbers_in (T : Txt K mg) : mg "numbers_in" = some (.ref T.a_numbers_in) := T.f_numbers_in.g
abbrev Txt.a_step_in (T : Txt K mg) : Addr := T.f_step_in.a
abbrev Txt.d_step_in (T : Txt K mg) : FuncData := T.f_step_in.d
theorem Txt.F_step_in (T : Txt K mg) : Fun K "step_in" "step_in" s_step_in T.a_step_in T.d_step_in := T.f_step_in.F
theorem Txt.b_step_in (T : Txt K mg) : Binds K T.d_step_in p_step_in [] := T.f_step_in.b
theorem Txt.g_step_in (T : Txt K mg) : mg "step_in" = some (.ref T.a_step_in) := T.f_step_in.g
abbrev Txt.a_steps_in (T : Txt K mg) : Addr := T.f_steps_in.a
abbrev Txt.d_steps_in (T : Txt K mg) : FuncData := T.f_steps_in.d
theorem Txt.F_steps_in (T : Txt K mg) : Fun K "steps_in" "steps_in" s_steps_in T.a_steps_in T.d_steps_in := T.f_steps_in.F
theorem Txt.b_steps_in (T : Txt K mg) : Binds K T.d_steps_in p_steps_in [] := T.f_steps_in.b
theorem Txt.g_steps_in (T : Txt K mg) : mg "steps_in" = some (.ref T.a_steps_in) := T.f_steps_in.g
abbrev Txt.a_group_in (T : Txt K mg) : Addr := T.f_group_in.a
abbrev Txt.d_group_in (T : Txt K mg) : FuncData := T.f_group_in.d
theorem Txt.F_group_in (T : Txt K mg) : Fun K "group_in" "group_in" s_group_in T.a_group_in T.d_group_in := T.f_group_in.F
theorem Txt.b_group_in (T : Txt K mg) : Binds K T.d_group_in p_group_in [] := T.f_group_in.b
theorem Txt.g_group_in (T : Txt K mg) : mg "group_in" = some (.ref T.a_group_in) := T.f_group_in.g
abbrev Txt.a_with_line (T : Txt K mg) : Addr := T.f_with_line.a
abbrev Txt.d_with_line (T : Txt K mg) : FuncData := T.f_with_line.d
theorem Txt.F_with_line (T : Txt K mg) : Fun K "with_line" "with_line" s_with_line T.a_with_line T.d_with_line := T.f_with_line.F
theorem Txt.b_with_line (T : Txt K mg) : Binds K T.d_with_line p_with_line [] := T.f_with_line.b
theorem Txt.g_with_line (T : Txt K mg) : mg "with_line" = some (.ref T.a_with_line) := T.f_with_line.g
abbrev Txt.a_parse_system (T : Txt K mg) : Addr := T.f_parse_system.a
abbrev Txt.d_parse_system (T : Txt K mg) : FuncData := T.f_parse_system.d
theorem Txt.F_parse_system (T : Txt K mg) : Fun K "parse_system" "parse_system" s_parse_system T.a_parse_system T.d_parse_system := T.f_parse_system.F
theorem Txt.b_parse_system (T : Txt K mg) : Binds K T.d_parse_system p_parse_system [] := T.f_parse_system.b
theorem Txt.g_parse_system (T : Txt K mg) : mg "parse_system" = some (.ref T.a_parse_system) := T.f_parse_system.g
abbrev Txt.a_q_deck (T : Txt K mg) : Addr := T.f_q_deck.a
abbrev Txt.d_q_deck (T : Txt K mg) : FuncData := T.f_q_deck.d
theorem Txt.F_q_deck (T : Txt K mg) : Fun K "_law_deck" "_law_deck" s_q_deck T.a_q_deck T.d_q_deck := T.f_q_deck.F
theorem Txt.b_q_deck (T : Txt K mg) : Binds K T.d_q_deck p_q_deck [] := T.f_q_deck.b
theorem Txt.g_q_deck (T : Txt K mg) : mg "_law_deck" = some (.ref T.a_q_deck) := T.f_q_deck.g
abbrev Txt.a_q_next (T : Txt K mg) : Addr := T.f_q_next.a
abbrev Txt.d_q_next (T : Txt K mg) : FuncData := T.f_q_next.d
theorem Txt.F_q_next (T : Txt K mg) : Fun K "_law_next" "_law_next" s_q_next T.a_q_next T.d_q_next := T.f_q_next.F
theorem Txt.b_q_next (T : Txt K mg) : Binds K T.d_q_next p_q_next [] := T.f_q_next.b
theorem Txt.g_q_next (T : Txt K mg) : mg "_law_next" = some (.ref T.a_q_next) := T.f_q_next.g
abbrev Txt.a_q_same (T : Txt K mg) : Addr := T.f_q_same.a
abbrev Txt.d_q_same (T : Txt K mg) : FuncData := T.f_q_same.d
theorem Txt.F_q_same (T : Txt K mg) : Fun K "_law_same" "_law_same" s_q_same T.a_q_same T.d_q_same := T.f_q_same.F
theorem Txt.b_q_same (T : Txt K mg) : Binds K T.d_q_same p_q_same [] := T.f_q_same.b
theorem Txt.g_q_same (T : Txt K mg) : mg "_law_same" = some (.ref T.a_q_same) := T.f_q_same.g
abbrev Txt.a_q_shuffled (T : Txt K mg) : Addr := T.f_q_shuffled.a
abbrev Txt.d_q_shuffled (T : Txt K mg) : FuncData := T.f_q_shuffled.d
theorem Txt.F_q_shuffled (T : Txt K mg) : Fun K "_law_shuffled" "_law_shuffled" s_q_shuffled T.a_q_shuffled T.d_q_shuffled := T.f_q_shuffled.F
theorem Txt.b_q_shuffled (T : Txt K mg) : Binds K T.d_q_shuffled p_q_shuffled [] := T.f_q_shuffled.b
theorem Txt.g_q_shuffled (T : Txt K mg) : mg "_law_shuffled" = some (.ref T.a_q_shuffled) := T.f_q_shuffled.g
abbrev Txt.a_q_nested (T : Txt K mg) : Addr := T.f_q_nested.a
abbrev Txt.d_q_nested (T : Txt K mg) : FuncData := T.f_q_nested.d
theorem Txt.F_q_nested (T : Txt K mg) : Fun K "_law_nested" "_law_nested" s_q_nested T.a_q_nested T.d_q_nested := T.f_q_nested.F
theorem Txt.b_q_nested (T : Txt K mg) : Binds K T.d_q_nested p_q_nested [] := T.f_q_nested.b
theorem Txt.g_q_nested (T : Txt K mg) : mg "_law_nested" = some (.ref T.a_q_nested) := T.f_q_nested.g
abbrev Txt.a_q_wide_gains (T : Txt K mg) : Addr := T.f_q_wide_gains.a
abbrev Txt.d_q_wide_gains (T : Txt K mg) : FuncData := T.f_q_wide_gains.d
theorem Txt.F_q_wide_gains (T : Txt K mg) : Fun K "_law_wide_gains" "_law_wide_gains" s_q_wide_gains T.a_q_wide_gains T.d_q_wide_gains := T.f_q_wide_gains.F
theorem Txt.b_q_wide_gains (T : Txt K mg) : Binds K T.d_q_wide_gains p_q_wide_gains [] := T.f_q_wide_gains.b
theorem Txt.g_q_wide_gains (T : Txt K mg) : mg "_law_wide_gains" = some (.ref T.a_q_wide_gains) := T.f_q_wide_gains.g
abbrev Txt.a_q_wide_system (T : Txt K mg) : Addr := T.f_q_wide_system.a
abbrev Txt.d_q_wide_system (T : Txt K mg) : FuncData := T.f_q_wide_system.d
theorem Txt.F_q_wide_system (T : Txt K mg) : Fun K "_law_wide_system" "_law_wide_system" s_q_wide_system T.a_q_wide_system T.d_q_wide_system := T.f_q_wide_system.F
theorem Txt.b_q_wide_system (T : Txt K mg) : Binds K T.d_q_wide_system p_q_wide_system [] := T.f_q_wide_system.b
theorem Txt.g_q_wide_system (T : Txt K mg) : mg "_law_wide_system" = some (.ref T.a_q_wide_system) := T.f_q_wide_system.g
abbrev Txt.a_q_item_line (T : Txt K mg) : Addr := T.f_q_item_line.a
abbrev Txt.d_q_item_line (T : Txt K mg) : FuncData := T.f_q_item_line.d
theorem Txt.F_q_item_line (T : Txt K mg) : Fun K "_law_item_line" "_law_item_line" s_q_item_line T.a_q_item_line T.d_q_item_line := T.f_q_item_line.F
theorem Txt.b_q_item_line (T : Txt K mg) : Binds K T.d_q_item_line p_q_item_line [] := T.f_q_item_line.b
theorem Txt.g_q_item_line (T : Txt K mg) : mg "_law_item_line" = some (.ref T.a_q_item_line) := T.f_q_item_line.g
abbrev Txt.a_q_text (T : Txt K mg) : Addr := T.f_q_text.a
abbrev Txt.d_q_text (T : Txt K mg) : FuncData := T.f_q_text.d
theorem Txt.F_q_text (T : Txt K mg) : Fun K "_law_text" "_law_text" s_q_text T.a_q_text T.d_q_text := T.f_q_text.F
theorem Txt.b_q_text (T : Txt K mg) : Binds K T.d_q_text p_q_text [] := T.f_q_text.b
theorem Txt.g_q_text (T : Txt K mg) : mg "_law_text" = some (.ref T.a_q_text) := T.f_q_text.g
abbrev Txt.a_law (T : Txt K mg) : Addr := T.f_law.a
abbrev Txt.d_law (T : Txt K mg) : FuncData := T.f_law.d
theorem Txt.F_law (T : Txt K mg) : Fun K "law" "law" s_law T.a_law T.d_law := T.f_law.F
end
/-- the classes' addresses by name -/
structure CaOk {K : PySem.W.Frag} {mg : Str → Option Value} (T : Txt K mg) (ca : Str → Addr) : Prop where
  one : True
  a_CapError : ca "CapError" = T.e_CapError.C
  a_BadText : ca "BadText" = T.e_BadText.C
section
variable {K : PySem.W.Frag} {mg : Str → Option Value} {ca : Str → Addr}
end
end FD

namespace FD
open PySem PySem.Spec PyProof.Rows L2
section
variable {P : Program} {w : World} {K : PySem.W.Frag} {mg : Str → Option Value} {base : Heap} {D : Dk} {ca : Str → Addr} {fv : Nat → V}
theorem G_q_next (T : Txt K mg) : FnOk P w K mg base (L2.CX P w) 1 T.a_q_next T.d_q_next p_q_next (spF (Zdk D ca fv) 2 FF_q_next) := by
  refine T.F_q_next.okX sc_q_next (fun vs H Q E h => h.1) (fun cdv A outer s H vs Q E hr h => ?_)
  · obtain ⟨hvl, O, ds0, ds, o, t', hO1, hO2, dAt, dn, e, q0⟩ := h
    obtain ⟨m, n, rfl, hm, hm2, hc, rfl, rfl⟩ : ∃ m n, ds = [.hnd n, .int m] ∧ 0 < m ∧ m < 2 ^ 64 ∧ ds0.c < 2 ^ 40 ∧ o = .ok (.int (ds0.draw m)) false ∧ t' = ds0.step m := by
      unfold FF_q_next at e
      split at e
      · split at e
        · rename_i hh
          cases e
          exact ⟨_, _, rfl, hh.1, hh.2.1, hh.2.2, rfl, rfl⟩
        · cases e
      · cases e
    have hvs : vs = [.ref D.a, .int m] := by
      cases dn with
      | cons d1 r => cases r with
        | cons d2 r =>
          cases r
          rw [den_hnd d1, den_int d2]
    subst hvs
    obtain ⟨c0, big0, cells⟩ := ds0
    have dAt : D.At H c0 big0 cells := dAt
    have hc : c0 < 2 ^ 40 := hc
    have q : ∀ H' r c' big' , r = DS.draw m ⟨c0, big0, cells⟩ → DS.step m ⟨c0, big0, cells⟩ = ⟨c', big', cells⟩ → Keep D H H' → D.At H' c' big' cells → Q (.int r) H' := fun H' r c' big' h1 h2 kp d => by
      rw [h1]
      refine q0 _ H' ?_ (fun b o e n => kp b o e (fun z => n (.inl z)) fun z => n (.inr (.inl z))) (.int _)
      rw [h2]
      exact d
    refine ⟨_, PSs.nox (pss_cons (ps_while PassesOwn.never (pt_cmpR (op_neD hr.units) (pe_ix ix_list (pv 0) pe_int (fun _ _ => rfl)) (pe_lst pa_nil) (nomark _))
(pss_cons (ps_set (i := 2) sc_q_next.nd rfl (.inl rfl) (pe_ix ix_list (pe_ix ix_list (pv 0) pe_int (fun _ _ => rfl)) pe_int (fun _ _ => rfl)))
(pss_cons (ps_if (pt_cmpR op_gt (pv 2) pe_int (nomark _))
(pss_cons (ps_asg (pe_op op_fdivW (pv 2) (pv 1)) (pg_sub (pe_ix ix_list (pv 0) pe_int (fun _ _ => rfl)) pe_int set_list))
(pss_one (ps_ret (pe_op op_mod (pv 2) (pv 1)))))
pss_nil)
(pss_one (ps_expr (pe_bm PySem.F.plainAttrs_list PySem.F.slot_list_pop PySem.F.type_list_pop mt_popAt (pe_ix ix_list (pv 0) pe_int (fun _ _ => rfl)) (pa_cons pe_int pa_nil)))))))
(pss_cons (ps_asg (pe_op op_add (pe_ix ix_list (pv 0) pe_int (fun _ _ => rfl)) pe_int) (pg_sub (pv 0) pe_int set_list))
(pss_cons (ps_set (i := 3) sc_q_next.nd rfl (.inl rfl) (pe_op op_mod (pe_ix ix_list (pe_ix ix_list (pv 0) pe_int (fun _ _ => rfl)) (pe_op op_mod (pe_ix ix_list (pv 0) pe_int (fun _ _ => rfl)) (pe_callB (call_len_seq) (by rfl) T.m_len PySem.boot_len (pa_cons (pe_ix ix_list (pv 0) pe_int (fun _ _ => rfl)) pa_nil))) (fun _ _ => rfl)) pe_int))
(pss_cons (ps_set (i := 4) sc_q_next.nd rfl (.inl rfl) (pe_op op_add (pe_op op_add (pe_op op_mul (pv 3) (pe_op op_add pe_int (pe_op op_mul pe_int (pe_ix ix_list (pv 0) pe_int (fun _ _ => rfl))))) (pe_op op_mul (pe_op op_mul pe_int (pe_ix ix_list (pv 0) pe_int (fun _ _ => rfl))) (pe_ix ix_list (pv 0) pe_int (fun _ _ => rfl)))) pe_int))
(pss_cons (ps_set (i := 4) sc_q_next.nd rfl (.inl rfl) (pe_op op_mod (pv 4) pe_int))
(pss_one (ps_ret (pe_op op_mod (pe_op op_fdiv (pe_op op_mod (pe_op op_mul (pv 4) (pv 4)) pe_int) pe_int) (pv 1))))))))), ?_⟩
    refine while_by (fun σ H' => ∃ y2 big, σ = [some (.ref D.a), some (.int m), y2, none, none] ∧ D.At H' c0 big cells ∧ Keep D H H' ∧ drawB big m = drawB big0 m)
      (fun σ H' => match H' D.l1 with | some (.lst xs) => xs.length | _ => 0) ⟨_, big0, rfl, dAt, Keep.rfl', rfl⟩ (fun σ H1 hP => ?_) (fun σ H Q Q' f h => ?_)
    · obtain ⟨y2, big, rfl, d, kp, hbig⟩ := hP
      refine ⟨_, rfl, D.a, _, 0, .ref D.l1, rfl, rfl, .inl (.inl d.top), at0, Nat.zero_le _, fun p np => ?_⟩
      have d1 : D.At (upd H1 p (.lst [])) c0 big cells := d.new np
      have kp1 : Keep D H (upd H1 p (.lst [])) := kp.trans (Keep.new np)
      refine ⟨.list (big.map PyData.int), .list [], .lst (.inl (.inl d1.one)) (dp_ints big), .lst (.inl (.inl upd_same)) .nil, shaped_ints big, shaped_ints [], _, rfl, ?_⟩
      rw [eqv_nil]
      cases big with
      | nil =>
        refine iteF ?_
        -- the mixed draw
        refine ⟨_, rfl, D.a, _, 2, .int c0, rfl, rfl, .inl (.inl d1.top), at2, _, _, rfl, rfl, _, rfl, D.a, _, 2, 2, rfl, rfl, d1.top, ix2 (by simp), ?_⟩
        generalize hH2 : upd (upd H1 p (.lst [])) D.a _ = H2
        have d2 : D.At H2 (c0 + 1) [] cells := by
          subst hH2
          exact ⟨by rw [upd_same]; rfl, by rw [upd_ne d.ne1.symm]; exact d1.one, by rw [upd_ne d.ne2.symm]; exact d1.two, d.pos, d.ne1, d.ne2, d.ne3⟩
        have kp2 : Keep D H H2 := by
          subst hH2
          intro b x e n1 n2
          rw [upd_ne n1]
          exact kp1 b x e n1 n2
        have top : SqL K H2 D.a [.ref D.l1, .ref D.l2, .int (c0 + 1 : Nat)] := .inl (.inl d2.top)
        have two : SqL K H2 D.l2 (cells.map V.int) := .inl (.inl d2.two)
        have hl : 0 < (cells.length : Int) := by have := d.pos; omega
        have hj0 : 0 ≤ ((c0 + 1 : Nat) : Int) % (cells.length : Int) := Int.emod_nonneg _ (by omega)
        have hj1 : ((c0 + 1 : Nat) : Int) % (cells.length : Int) < cells.length := Int.emod_lt_of_pos _ hl
        obtain ⟨j, hj⟩ : ∃ j : Nat, ((c0 + 1 : Nat) : Int) % (cells.length : Int) = j := ⟨_, (Int.toNat_of_nonneg hj0).symm⟩
        have hjl : j < cells.length := by omega
        have gj : (cells.map V.int)[j]? = some (.int cells[j]) := by
          rw [List.getElem?_map, List.getElem?_eq_getElem hjl]
          rfl
        refine ⟨_, rfl, D.a, _, 1, .ref D.l2, rfl, rfl, top, at1, _, rfl, D.a, _, 2, .int (c0 + 1 : Nat), rfl, rfl, top, at2, _, rfl, D.a, _, 1, .ref D.l2, rfl, rfl, top, at1, D.l2, _, rfl, .inl two, _, _, rfl, rfl, by rw [List.length_map]; exact hl, ?_⟩
        refine ⟨D.l2, _, _, .int cells[j], rfl, rfl, two, by rw [List.length_map, hj]; exact atI_nat gj, _, _, rfl, rfl, (by show (0 : Int) < 2147483647; decide), ?_⟩
        have hx0 : 0 ≤ cells[j] % 2147483647 := Int.emod_nonneg _ (by decide)
        have hx1 : cells[j] % 2147483647 < 2147483647 := Int.emod_lt_of_pos _ (by decide)
        generalize hx : cells[j] % 2147483647 = x at hx0 hx1
        refine ⟨_, rfl, _, rfl, D.a, _, 2, .int (c0 + 1 : Nat), rfl, rfl, top, at2, _, _, rfl, rfl, .inl ⟨by decide, by decide⟩, _, _, rfl, rfl, _, _, rfl, rfl, .inl ⟨by omega, by omega⟩, ?_⟩
        refine ⟨_, rfl, D.a, _, 2, .int (c0 + 1 : Nat), rfl, rfl, top, at2, _, _, rfl, rfl, .inl ⟨by decide, by decide⟩, _, rfl, D.a, _, 2, .int (c0 + 1 : Nat), rfl, rfl, top, at2, _, _, rfl, rfl, .inl ⟨by omega, by omega⟩, _, _, rfl, rfl, _, _, rfl, rfl, ?_⟩
        refine ⟨_, rfl, _, _, rfl, rfl, (by show (0 : Int) < 2147483629; decide), ?_⟩
        generalize hy : (x * (16807 + 39373 * ((c0 + 1 : Nat) : Int)) + 40692 * ((c0 + 1 : Nat) : Int) * ((c0 + 1 : Nat) : Int) + 97) % (2147483629 : Int) = y
        have hy0 : 0 ≤ y := by rw [← hy]; exact Int.emod_nonneg _ (by decide)
        have hy1 : y < 2147483629 := by rw [← hy]; exact Int.emod_lt_of_pos _ (by decide)
        refine ⟨_, rfl, _, rfl, _, _, rfl, rfl, .inl ⟨by omega, by omega⟩, _, _, rfl, rfl, (by show (0 : Int) < 2147483587; decide), _, _, rfl, rfl, ⟨by decide, by decide⟩, _, rfl, _, _, rfl, rfl, hm, ?_⟩
        have hb : drawB big0 m = none := hbig.symm
        refine q H2 _ (c0 + 1) [] ?_ ?_ kp2 d2
        · unfold DS.draw
          simp only [hb]
          unfold mixed
          rw [hj, Int.toNat_natCast, List.getElem?_eq_getElem hjl, Option.getD_some]
        · unfold DS.step
          simp only [hb]
      | cons b rest =>
        refine iteT ?_
        have top : SqL K (upd H1 p (.lst [])) D.a [.ref D.l1, .ref D.l2, .int c0] := .inl (.inl d1.top)
        have one : SqL K (upd H1 p (.lst [])) D.l1 ((b :: rest).map V.int) := .inl (.inl d1.one)
        refine ⟨_, rfl, D.a, _, 0, .ref D.l1, rfl, rfl, top, at0, D.l1, _, 0, .int b, rfl, rfl, one, at0, ?_⟩
        refine ⟨_, rfl, _, _, rfl, rfl, _, rfl, ite2 (fun e => ?_) (fun e => ?_)⟩
        · refine ⟨_, rfl, _, rfl, _, _, rfl, rfl, wide_div (b := 64) hm (by omega) (by decide) (by decide), ?_⟩
          refine ⟨_, rfl, D.a, _, 0, .ref D.l1, rfl, rfl, top, at0, D.l1, _, 0, 0, rfl, rfl, d1.one, ix0 (by simp), ?_⟩
          refine ⟨_, rfl, _, rfl, _, _, rfl, rfl, hm, ?_⟩
          have hb : drawB big0 m = some (b % m, (b / m) :: rest) := by
            rw [← hbig]
            unfold drawB
            rw [if_pos (of_decide_eq_true e)]
          refine q _ _ c0 ((b / m) :: rest) ?_ ?_ ?_ ?_
          · unfold DS.draw
            simp only [hb]
          · unfold DS.step
            simp only [hb]
          · intro z x e n1 n2
            rw [upd_ne n2]
            exact kp1 z x e n1 n2
          · exact ⟨by rw [upd_ne d.ne1]; exact d1.top, by rw [upd_same]; rfl, by rw [upd_ne d.ne3]; exact d1.two, d.pos, d.ne1, d.ne2, d.ne3⟩
        · refine ⟨_, rfl, D.a, _, 0, .ref D.l1, rfl, rfl, top, at0, .inl ⟨rfl, _, one⟩, D.l1, _, 0, 0, .int b, rfl, rfl, d1.one, by decide, by decide, seq0 (by simp), rfl, ?_⟩
          refine ⟨⟨_, rest, rfl, ⟨by rw [upd_ne d.ne1]; exact d1.top, by rw [upd_same]; rfl, by rw [upd_ne d.ne3]; exact d1.two, d.pos, d.ne1, d.ne2, d.ne3⟩, ?_, ?_⟩, ?_⟩
          · intro z x e n1 n2
            rw [upd_ne n2]
            exact kp1 z x e n1 n2
          · rw [← hbig]
            conv => rhs; unfold drawB
            rw [if_neg (fun z => e (decide_eq_true z))]
          · have e1 := d.one
            simp only [upd_same, e1]
            simp
    · obtain ⟨v, hv, p, xs, i, z, e1, e2, hs, ha, hl, h⟩ := h
      refine ⟨v, hv, p, xs, i, z, e1, e2, hs, ha, hl, fun p2 n2 => ?_⟩
      obtain ⟨d, e, a1, a2, a3, a4, k, e5, q⟩ := h p2 n2
      exact ⟨d, e, a1, a2, a3, a4, k, e5, f _ _ q⟩
end
end FD

set_option maxHeartbeats 4000000
namespace FD
open PySem PySem.Spec PyProof.Rows L2
section
variable {P : Program} {w : World} {K : PySem.W.Frag} {mg : Str → Option Value} {base : Heap} {Dx : Dk} {ca : Str → Addr} {Z : Wd}
theorem G_init_BadText (T : Txt K mg) : FnOk P w K mg base CX0 1 T.e_BadText.fI T.e_BadText.fd ["self", "line"] (sp_init K T.e_BadText.C "line") := by
  refine T.e_BadText.F.ok scI_BadText (fun vs H Q E h => ?_) (fun cdv A outer s H vs Q E hr h => ?_)
  · obtain ⟨a, v, rfl, _⟩ := h
    rfl
  · obtain ⟨a, v, rfl, ox, no, ha, q⟩ := h
    refine ⟨_, pss_one (ps_ost (pv 0) (pv 1)), ?_⟩
    exact ⟨_, rfl, _, rfl, a, T.e_BadText.C, rfl, ox, no, .inl ⟨ha, q⟩⟩

theorem G_is_between (T : Txt K mg) (U : CaOk T Z.ca) : FnOk P w K mg base (L2.CX P w) 1 T.a_is_between T.d_is_between p_is_between (spF Z 3 FF_is_between) :=
  fn_body (Z := Z) (b := fb_is_between) T.F_is_between sc_is_between (by decide) (fun _ _ _ h => h) fun cdv A outer s H E C hr tk => 
  (sv_cons (sv_if (PW.pt (ew_or (et_not (et_val (ev_callB cD_isi (by rfl) T.m_isinstance (by decide +kernel) (ev_acons (ev_var (pv 0)) (ev_acons (ev_con (pe_bltn (v := .ty "int") (by rfl) T.m_int (by decide +kernel) rfl) (fun _ _ => .ty _)) ev_anil))))) (ew_or1 (et_val (ev_callB cD_isi (by rfl) T.m_isinstance (by decide +kernel) (ev_acons (ev_var (pv 0)) (ev_acons (ev_con (pe_bltn (v := .ty "bool") (by rfl) T.m_bool (by decide +kernel) rfl) (fun _ _ => .ty _)) ev_anil))))))) (sv_one (sv_ret ev_bl)) sv_nil)
  (sv_one (sv_ret (ev_chain opD_le opD_le (ev_var (pv 1)) (ev_var (pv 0)) (ev_var (pv 2))))))

theorem G_is_tuple_of (T : Txt K mg) (U : CaOk T Z.ca) : FnOk P w K mg base (L2.CX P w) 1 T.a_is_tuple_of T.d_is_tuple_of p_is_tuple_of (spF Z 2 FF_is_tuple_of) :=
  fn_body (Z := Z) (b := fb_is_tuple_of) T.F_is_tuple_of sc_is_tuple_of (by decide) (fun _ _ _ h => h) fun cdv A outer s H E C hr tk => 
  (sv_one (sv_ret (ev_and (ev_callB cD_isi (by rfl) T.m_isinstance (by decide +kernel) (ev_acons (ev_var (pv 0)) (ev_acons (ev_con (pe_bltn (v := .ty "tuple") (by rfl) T.m_tuple (by decide +kernel) rfl) (fun _ _ => .ty _)) ev_anil))) (ev_one (ev_cmp (opD_eq hr.units) (ev_callB cD_len (by rfl) T.m_len PySem.boot_len (ev_acons (ev_var (pv 0)) ev_anil)) (ev_var (pv 1)) (nomark _))))))

theorem G_is_choice (T : Txt K mg) (U : CaOk T Z.ca) : FnOk P w K mg base (L2.CX P w) 2 T.a_is_choice T.d_is_choice p_is_choice (spF Z 2 FF_is_choice) :=
  fn_body (Z := Z) (b := fb_is_choice) T.F_is_choice sc_is_choice (by decide) (fun _ _ _ h => h) fun cdv A outer s H E C hr tk => 
  (sv_cons (sv_if (et_not (et_val (ev_callB cD_isi (by rfl) T.m_isinstance (by decide +kernel) (ev_acons (ev_var (pv 0)) (ev_acons (ev_con (pe_bltn (v := .ty "tuple") (by rfl) T.m_tuple (by decide +kernel) rfl) (fun _ _ => .ty _)) ev_anil))))) (sv_one (sv_ret ev_bl)) sv_nil)
  (sv_cons (sv_set (i := 2) sc_is_choice.nd rfl (.inl rfl) ev_int)
  (sv_cons (sv_for (S := [3]) (by exact passes_of rfl) rfl (iv_seq (ev_var (pv 0))) (gv_name (i := 3) sc_is_choice.nd rfl (.inl rfl)) (sv_cons (sv_if (et_not (et_val (ev_call (G_is_between T U) (fun _ _ _ => len_is_between) tk (hr.mono (by omega)) (by rfl) T.g_is_between T.F_is_between.kp T.b_is_between (ev_acons (ev_var (pv 3)) (ev_acons (ev_var (pv 2)) (ev_acons (ev_bin opD_sub (ev_var (pv 1)) ev_int) ev_anil)))))) (sv_one (sv_ret ev_bl)) sv_nil)
  (sv_one (sv_set (i := 2) sc_is_choice.nd rfl (.inl rfl) (ev_bin opD_add (ev_var (pv 3)) ev_int)))))
  (sv_one (sv_ret ev_bl)))))

theorem G_is_step (T : Txt K mg) (U : CaOk T Z.ca) : FnOk P w K mg base (L2.CX P w) 2 T.a_is_step T.d_is_step p_is_step (spF Z 1 FF_is_step) :=
  fn_body (Z := Z) (b := fb_is_step) T.F_is_step sc_is_step (by decide) (fun _ _ _ h => h) fun cdv A outer s H E C hr tk => 
  (sv_cons (sv_if (et_not (et_val (ev_call (G_is_tuple_of T U) (fun _ _ _ => len_is_tuple_of) tk (hr.mono (by omega)) (by rfl) T.g_is_tuple_of T.F_is_tuple_of.kp T.b_is_tuple_of (ev_acons (ev_var (pv 0)) (ev_acons ev_int ev_anil))))) (sv_one (sv_ret ev_bl)) sv_nil)
  (sv_cons (sv_asg (S := [1, 2]) (ev_var (pv 0)) (gv_tup rfl (gv_cons (gv_name (i := 1) sc_is_step.nd rfl (.inl rfl)) (gv_cons (gv_name (i := 2) sc_is_step.nd rfl (.inl rfl)) gv_nil))))
  (sv_one (sv_ret (ev_and (ev_call (G_is_between T U) (fun _ _ _ => len_is_between) tk (hr.mono (by omega)) (by rfl) T.g_is_between T.F_is_between.kp T.b_is_between (ev_acons (ev_var (pv 1)) (ev_acons ev_int (ev_acons (ev_con (pe_glob (v := .int 1000000000000) (by rfl) T.g_LIMIT ⟨_, rfl⟩) (fun _ _ => .int _)) ev_anil)))) (ev_one (ev_call (G_is_between T U) (fun _ _ _ => len_is_between) tk (hr.mono (by omega)) (by rfl) T.g_is_between T.F_is_between.kp T.b_is_between (ev_acons (ev_var (pv 2)) (ev_acons (ev_un unD_neg (ev_con (pe_glob (v := .int 1000000) (by rfl) T.g_MAX_GAIN ⟨_, rfl⟩) (fun _ _ => .int _))) (ev_acons (ev_con (pe_glob (v := .int 1000000) (by rfl) T.g_MAX_GAIN ⟨_, rfl⟩) (fun _ _ => .int _)) ev_anil))))))))))

theorem G_capacity_of_gains (T : Txt K mg) (U : CaOk T Z.ca) : FnOk P w K mg base (L2.CX P w) 1 T.a_capacity_of_gains T.d_capacity_of_gains p_capacity_of_gains (spF Z 1 FF_capacity_of_gains) :=
  fn_body (Z := Z) (b := fb_capacity_of_gains) T.F_capacity_of_gains sc_capacity_of_gains (by decide) (fun _ _ _ h => h) fun cdv A outer s H E C hr tk => 
  (sv_one (sv_ret (ev_callB (cD_sum rfl) (by rfl) T.m_sum (by decide +kernel) (ev_acons (ev_lc (own := [("count", 1), ("gain", 2)]) (S := [1, 2]) (sh := []) rfl sc_capacity_of_gains.nd (iv_seq (ev_var (pv 0))) (blkOk_by (own := [("count", 1), ("gain", 2)]) (N := n_capacity_of_gains) (sc := defScope s_capacity_of_gains) (by decide +kernel)) (fun C hw s H A cl fp => (gv_tup rfl (gv_cons (gv_name (i := 1) sc_capacity_of_gains.nd rfl (.inl rfl)) (gv_cons (gv_name (i := 2) sc_capacity_of_gains.nd rfl (.inl rfl)) gv_nil)))) (fun _ _ _ _ _ => ex_yes) (fun C hw s H A cl fp => (ev_var (pv 1)))) ev_anil))))

theorem G_is_gains (T : Txt K mg) (U : CaOk T Z.ca) : FnOk P w K mg base (L2.CX P w) 3 T.a_is_gains T.d_is_gains p_is_gains (spF Z 1 FF_is_gains) :=
  fn_body (Z := Z) (b := fb_is_gains) T.F_is_gains sc_is_gains (by decide) (fun _ _ _ h => h) fun cdv A outer s H E C hr tk => 
  (sv_cons (sv_if (PW.pt (ew_or (et_not (et_val (ev_callB cD_isi (by rfl) T.m_isinstance (by decide +kernel) (ev_acons (ev_var (pv 0)) (ev_acons (ev_con (pe_bltn (v := .ty "tuple") (by rfl) T.m_tuple (by decide +kernel) rfl) (fun _ _ => .ty _)) ev_anil))))) (ew_or1 (et_cmp opD_gt (ev_callB cD_len (by rfl) T.m_len PySem.boot_len (ev_acons (ev_var (pv 0)) ev_anil)) (ev_con (pe_glob (v := .int 5) (by rfl) T.g_MAX_STEPS ⟨_, rfl⟩) (fun _ _ => .int _)) (nomark _))))) (sv_one (sv_ret ev_bl)) sv_nil)
  (sv_cons (sv_if (et_not (et_val (ev_callB (cD_all rfl) (by rfl) T.m_all (by decide +kernel) (ev_acons (ev_lc (own := [("step", 1)]) (S := [1]) (sh := []) rfl sc_is_gains.nd (iv_seq (ev_var (pv 0))) (blkOk_by (own := [("step", 1)]) (N := n_is_gains) (sc := defScope s_is_gains) (by decide +kernel)) (fun C hw s H A cl fp => (gv_name (i := 1) sc_is_gains.nd rfl (.inl rfl))) (fun _ _ _ _ _ => ex_yes) (fun C hw s H A cl fp => (ev_call (G_is_step T U) (fun _ _ _ => len_is_step) (takes_dead hw) (hr.mono (by omega)) (by rfl) T.g_is_step T.F_is_step.kp T.b_is_step (ev_acons (ev_var (pv 1)) ev_anil)))) ev_anil)))) (sv_one (sv_ret ev_bl)) sv_nil)
  (sv_cons (sv_if (et_not (et_val (ev_callB (cD_all rfl) (by rfl) T.m_all (by decide +kernel) (ev_acons (ev_lc (own := [("step", 1), ("later", 2)]) (S := [1, 2]) (sh := []) rfl sc_is_gains.nd (iv_zip (by rfl) T.m_zip (ev_acons (ev_var (pv 0)) (ev_acons (ev_slice (ev_var (pv 0)) (pd_some ev_int) pd_no) ev_anil))) (blkOk_by (own := [("step", 1), ("later", 2)]) (N := n_is_gains) (sc := defScope s_is_gains) (by decide +kernel)) (fun C hw s H A cl fp => (gv_tup rfl (gv_cons (gv_name (i := 1) sc_is_gains.nd rfl (.inl rfl)) (gv_cons (gv_name (i := 2) sc_is_gains.nd rfl (.inl rfl)) gv_nil)))) (fun _ _ _ _ _ => ex_yes) (fun C hw s H A cl fp => (ev_cmp opD_gt (ev_ix ixR (ev_var (pv 1)) ev_int (fun _ _ => rfl)) (ev_ix ixR (ev_var (pv 2)) ev_int (fun _ _ => rfl)) (nomark _)))) ev_anil)))) (sv_one (sv_ret ev_bl)) sv_nil)
  (sv_one (sv_ret (ev_cmp opD_le (ev_call (G_capacity_of_gains T U) (fun _ _ _ => len_capacity_of_gains) tk (hr.mono (by omega)) (by rfl) T.g_capacity_of_gains T.F_capacity_of_gains.kp T.b_capacity_of_gains (ev_acons (ev_var (pv 0)) ev_anil)) (ev_con (pe_glob (v := .int 1000000000000) (by rfl) T.g_LIMIT ⟨_, rfl⟩) (fun _ _ => .int _)) (nomark _)))))))

theorem G_are_limits (T : Txt K mg) (U : CaOk T Z.ca) : FnOk P w K mg base (L2.CX P w) 2 T.a_are_limits T.d_are_limits p_are_limits (spF Z 2 FF_are_limits) :=
  fn_body (Z := Z) (b := fb_are_limits) T.F_are_limits sc_are_limits (by decide) (fun _ _ _ h => h) fun cdv A outer s H E C hr tk => 
  (sv_one (sv_ret (ev_and (ev_call (G_is_between T U) (fun _ _ _ => len_is_between) tk (hr.mono (by omega)) (by rfl) T.g_is_between T.F_is_between.kp T.b_is_between (ev_acons (ev_var (pv 1)) (ev_acons ev_int (ev_acons (ev_con (pe_glob (v := .int 1000000000000) (by rfl) T.g_LIMIT ⟨_, rfl⟩) (fun _ _ => .int _)) ev_anil)))) (ev_one (ev_call (G_is_between T U) (fun _ _ _ => len_is_between) tk (hr.mono (by omega)) (by rfl) T.g_is_between T.F_is_between.kp T.b_is_between (ev_acons (ev_var (pv 0)) (ev_acons ev_int (ev_acons (ev_var (pv 1)) ev_anil))))))))

theorem G_is_group (T : Txt K mg) (U : CaOk T Z.ca) : FnOk P w K mg base (L2.CX P w) 3 T.a_is_group T.d_is_group p_is_group (spF Z 2 FF_is_group) :=
  fn_body (Z := Z) (b := fb_is_group) T.F_is_group sc_is_group (by decide) (fun _ _ _ h => h) fun cdv A outer s H E C hr tk => 
  (sv_cons (sv_if (et_not (et_val (ev_call (G_is_tuple_of T U) (fun _ _ _ => len_is_tuple_of) tk (hr.mono (by omega)) (by rfl) T.g_is_tuple_of T.F_is_tuple_of.kp T.b_is_tuple_of (ev_acons (ev_var (pv 0)) (ev_acons ev_int ev_anil))))) (sv_one (sv_ret ev_bl)) sv_nil)
  (sv_cons (sv_asg (S := [2, 3, 4]) (ev_var (pv 0)) (gv_tup rfl (gv_cons (gv_name (i := 2) sc_is_group.nd rfl (.inl rfl)) (gv_cons (gv_name (i := 3) sc_is_group.nd rfl (.inl rfl)) (gv_cons (gv_name (i := 4) sc_is_group.nd rfl (.inl rfl)) gv_nil)))))
  (sv_one (sv_ret (ev_and (ev_call (G_is_choice T U) (fun _ _ _ => len_is_choice) tk (hr.mono (by omega)) (by rfl) T.g_is_choice T.F_is_choice.kp T.b_is_choice (ev_acons (ev_var (pv 2)) (ev_acons (ev_var (pv 1)) ev_anil))) (ev_and (ev_cmp opD_gt (ev_callB cD_len (by rfl) T.m_len PySem.boot_len (ev_acons (ev_var (pv 2)) ev_anil)) ev_int (nomark _)) (ev_one (ev_call (G_are_limits T U) (fun _ _ _ => len_are_limits) tk (hr.mono (by omega)) (by rfl) T.g_are_limits T.F_are_limits.kp T.b_are_limits (ev_acons (ev_var (pv 3)) (ev_acons (ev_var (pv 4)) ev_anil))))))))))

theorem G_are_compatible (T : Txt K mg) (U : CaOk T Z.ca) : FnOk P w K mg base (L2.CX P w) 1 T.a_are_compatible T.d_are_compatible p_are_compatible (spF Z 2 FF_are_compatible) :=
  fn_body (Z := Z) (b := fb_are_compatible) T.F_are_compatible sc_are_compatible (by decide) (fun _ _ _ h => h) fun cdv A outer s H E C hr tk => 
  (sv_cons (sv_set (i := 2) sc_are_compatible.nd rfl (.inl rfl) (ev_lenAnd (by rfl) T.m_len (by rfl) T.m_set (ev_var (pv 0)) (ev_var (pv 1))))
  (sv_cons (sv_if (et_cmp (opD_eq hr.units) (ev_var (pv 2)) ev_int (nomark _)) (sv_one (sv_ret ev_bl)) sv_nil)
  (sv_one (sv_ret (ev_and (ev_cmp (opD_ne hr.units) (ev_callB cD_len (by rfl) T.m_len PySem.boot_len (ev_acons (ev_var (pv 0)) ev_anil)) (ev_callB cD_len (by rfl) T.m_len PySem.boot_len (ev_acons (ev_var (pv 1)) ev_anil)) (nomark _)) (ev_one (ev_cmp (opD_eq hr.units) (ev_var (pv 2)) (ev_callB (cD_min2 rfl) (by rfl) T.m_min (by decide +kernel) (ev_acons (ev_callB cD_len (by rfl) T.m_len PySem.boot_len (ev_acons (ev_var (pv 0)) ev_anil)) (ev_acons (ev_callB cD_len (by rfl) T.m_len PySem.boot_len (ev_acons (ev_var (pv 1)) ev_anil)) ev_anil))) (nomark _))))))))

theorem G_may_join (T : Txt K mg) (U : CaOk T Z.ca) : FnOk P w K mg base (L2.CX P w) 4 T.a_may_join T.d_may_join p_may_join (spF Z 3 FF_may_join) :=
  fn_body (Z := Z) (b := fb_may_join) T.F_may_join sc_may_join (by decide) (fun _ _ _ h => h) fun cdv A outer s H E C hr tk => 
  (sv_cons (sv_if (et_not (et_val (ev_call (G_is_group T U) (fun _ _ _ => len_is_group) tk (hr.mono (by omega)) (by rfl) T.g_is_group T.F_is_group.kp T.b_is_group (ev_acons (ev_var (pv 0)) (ev_acons (ev_var (pv 2)) ev_anil))))) (sv_one (sv_ret ev_bl)) sv_nil)
  (sv_one (sv_ret (ev_callB (cD_all rfl) (by rfl) T.m_all (by decide +kernel) (ev_acons (ev_lc (own := [("group", 3)]) (S := [3]) (sh := [0]) rfl sc_may_join.nd (iv_seq (ev_var (pv 1))) (blkOk_by (own := [("group", 3)]) (N := n_may_join) (sc := defScope s_may_join) (by decide +kernel)) (fun C hw s H A cl fp => (gv_name (i := 3) sc_may_join.nd rfl (.inl rfl))) (fun _ _ _ _ _ => ex_yes) (fun C hw s H A cl fp => (ev_call (G_are_compatible T U) (fun _ _ _ => len_are_compatible) (takes_dead hw) (hr.mono (by omega)) (by rfl) T.g_are_compatible T.F_are_compatible.kp T.b_are_compatible (ev_acons (ev_ix ixR (ev_var (pv 0)) ev_int (fun _ _ => rfl)) (ev_acons (ev_ix ixR (ev_var (pv 3)) ev_int (fun _ _ => rfl)) ev_anil))))) ev_anil)))))

theorem G_spaced (T : Txt K mg) (U : CaOk T Z.ca) : FnOk P w K mg base (L2.CX P w) 1 T.a_spaced T.d_spaced p_spaced (spF Z 1 FF_spaced) :=
  fn_body (Z := Z) (b := fb_spaced) T.F_spaced sc_spaced (by decide) (fun _ _ _ h => h) fun cdv A outer s H E C hr tk => 
  (sv_one (sv_ret (ev_join ev_str (ev_lc (own := [("value", 1)]) (S := [1]) (sh := []) rfl sc_spaced.nd (iv_seq (ev_var (pv 0))) (blkOk_by (own := [("value", 1)]) (N := n_spaced) (sc := defScope s_spaced) (by decide +kernel)) (fun C hw s H A cl fp => (gv_name (i := 1) sc_spaced.nd rfl (.inl rfl))) (fun _ _ _ _ _ => ex_yes) (fun C hw s H A cl fp => (ev_callTy cD_str (by rfl) T.m_str (by decide +kernel) (ev_acons (ev_var (pv 1)) ev_anil)))))))

theorem G_item_line (T : Txt K mg) (U : CaOk T Z.ca) : FnOk P w K mg base (L2.CX P w) 2 T.a_item_line T.d_item_line p_item_line (spF Z 1 FF_item_line) :=
  fn_body (Z := Z) (b := fb_item_line) T.F_item_line sc_item_line (by decide) (fun _ _ _ h => h) fun cdv A outer s H E C hr tk => 
  (sv_one (sv_ret (ev_call (G_spaced T U) (fun _ _ _ => len_spaced) tk (hr.mono (by omega)) (by rfl) T.g_spaced T.F_spaced.kp T.b_spaced (ev_acons (ev_lst (ev_acons ev_str (ev_astar (ev_lc (own := [("count", 1), ("gain", 2)]) (S := [1, 2]) (sh := []) rfl sc_item_line.nd (iv_seq (ev_var (pv 0))) (blkOk_by (own := [("count", 1), ("gain", 2)]) (N := n_item_line) (sc := defScope s_item_line) (by decide +kernel)) (fun C hw s H A cl fp => (gv_tup rfl (gv_cons (gv_name (i := 1) sc_item_line.nd rfl (.inl rfl)) (gv_cons (gv_name (i := 2) sc_item_line.nd rfl (.inl rfl)) gv_nil)))) (fun _ _ _ _ _ => ex_yes) (fun C hw s H A cl fp => (ev_js (fs := [(unF fmtD (varF 1)), (conF (.str (Str.ofString "*"))), (unF fmtD (varF 2))]) (pj_cons (ev_fmt (ev_var (pv 1))) (pj_cons ev_str (pj_cons (ev_fmt (ev_var (pv 2))) pj_nil)))))) ev_anil))) ev_anil))))

theorem G_group_line (T : Txt K mg) (U : CaOk T Z.ca) : FnOk P w K mg base (L2.CX P w) 2 T.a_group_line T.d_group_line p_group_line (spF Z 1 FF_group_line) :=
  fn_body (Z := Z) (b := fb_group_line) T.F_group_line sc_group_line (by decide) (fun _ _ _ h => h) fun cdv A outer s H E C hr tk => 
  (sv_cons (sv_asg (S := [1, 2, 3]) (ev_var (pv 0)) (gv_tup rfl (gv_cons (gv_name (i := 1) sc_group_line.nd rfl (.inl rfl)) (gv_cons (gv_name (i := 2) sc_group_line.nd rfl (.inl rfl)) (gv_cons (gv_name (i := 3) sc_group_line.nd rfl (.inl rfl)) gv_nil)))))
  (sv_one (sv_ret (ev_call (G_spaced T U) (fun _ _ _ => len_spaced) tk (hr.mono (by omega)) (by rfl) T.g_spaced T.F_spaced.kp T.b_spaced (ev_acons (ev_lst (ev_acons ev_str (ev_acons (ev_join ev_str (ev_lc (own := [("item", 4)]) (S := [4]) (sh := []) rfl sc_group_line.nd (iv_seq (ev_var (pv 1))) (blkOk_by (own := [("item", 4)]) (N := n_group_line) (sc := defScope s_group_line) (by decide +kernel)) (fun C hw s H A cl fp => (gv_name (i := 4) sc_group_line.nd rfl (.inl rfl))) (fun _ _ _ _ _ => ex_yes) (fun C hw s H A cl fp => (ev_callTy cD_str (by rfl) T.m_str (by decide +kernel) (ev_acons (ev_var (pv 4)) ev_anil))))) (ev_acons (ev_var (pv 2)) (ev_acons (ev_var (pv 3)) ev_anil))))) ev_anil)))))

theorem G_format_system (T : Txt K mg) (U : CaOk T Z.ca) : FnOk P w K mg base (L2.CX P w) 3 T.a_format_system T.d_format_system p_format_system (spF Z 1 FF_format_system) :=
  fn_body (Z := Z) (b := fb_format_system) T.F_format_system sc_format_system (by decide) (fun _ _ _ h => h) fun cdv A outer s H E C hr tk => 
  (sv_cons (sv_asg (S := [1, 2]) (ev_var (pv 0)) (gv_tup rfl (gv_cons (gv_name (i := 1) sc_format_system.nd rfl (.inl rfl)) (gv_cons (gv_name (i := 2) sc_format_system.nd rfl (.inl rfl)) gv_nil))))
  (sv_cons (sv_set (i := 3) sc_format_system.nd rfl (.inl rfl) (ev_bin opD_add (ev_lc (own := [("gains", 4)]) (S := [4]) (sh := []) rfl sc_format_system.nd (iv_seq (ev_var (pv 1))) (blkOk_by (own := [("gains", 4)]) (N := n_format_system) (sc := defScope s_format_system) (by decide +kernel)) (fun C hw s H A cl fp => (gv_name (i := 4) sc_format_system.nd rfl (.inl rfl))) (fun _ _ _ _ _ => ex_yes) (fun C hw s H A cl fp => (ev_call (G_item_line T U) (fun _ _ _ => len_item_line) (takes_dead hw) (hr.mono (by omega)) (by rfl) T.g_item_line T.F_item_line.kp T.b_item_line (ev_acons (ev_var (pv 4)) ev_anil)))) (ev_lc (own := [("group", 5)]) (S := [5]) (sh := []) rfl sc_format_system.nd (iv_seq (ev_var (pv 2))) (blkOk_by (own := [("group", 5)]) (N := n_format_system) (sc := defScope s_format_system) (by decide +kernel)) (fun C hw s H A cl fp => (gv_name (i := 5) sc_format_system.nd rfl (.inl rfl))) (fun _ _ _ _ _ => ex_yes) (fun C hw s H A cl fp => (ev_call (G_group_line T U) (fun _ _ _ => len_group_line) (takes_dead hw) (hr.mono (by omega)) (by rfl) T.g_group_line T.F_group_line.kp T.b_group_line (ev_acons (ev_var (pv 5)) ev_anil))))))
  (sv_one (sv_ret (ev_join ev_str (ev_lc (own := [("line", 6)]) (S := [6]) (sh := []) rfl sc_format_system.nd (iv_seq (ev_var (pv 3))) (blkOk_by (own := [("line", 6)]) (N := n_format_system) (sc := defScope s_format_system) (by decide +kernel)) (fun C hw s H A cl fp => (gv_name (i := 6) sc_format_system.nd rfl (.inl rfl))) (fun _ _ _ _ _ => ex_yes) (fun C hw s H A cl fp => (ev_bin opD_addS (ev_var (pv 6)) ev_str))))))))

theorem G_number_in (T : Txt K mg) (U : CaOk T Z.ca) : FnOk P w K mg base (L2.CX P w) 1 T.a_number_in T.d_number_in p_number_in (spF Z 1 FF_number_in) :=
  fn_body (Z := Z) (b := fb_number_in) T.F_number_in sc_number_in (by decide) (fun _ _ _ h => h) fun cdv A outer s H E C hr tk => 
  (sv_cons (sv_if (PW.pt (ew_or (et_not (et_val (ev_isascii (ev_var (pv 0))))) (ew_or (et_not (et_val (ev_isdigit (ev_var (pv 0))))) (ew_or1 (et_cmp opD_gt (ev_callB cD_lenS (by rfl) T.m_len PySem.boot_len (ev_acons (ev_var (pv 0)) ev_anil)) (ev_con (pe_glob (v := .int 13) (by rfl) T.g_MAX_DIGITS ⟨_, rfl⟩) (fun _ _ => .int _)) (nomark _)))))) (sv_one (sv_ret ev_non)) sv_nil)
  (sv_cons (sv_if (PW.pt (ew_and (et_val (ev_startswith (ev_var (pv 0)) ev_str)) (ew_and1 (et_cmp opD_gt (ev_callB cD_lenS (by rfl) T.m_len PySem.boot_len (ev_acons (ev_var (pv 0)) ev_anil)) ev_int (nomark _))))) (sv_one (sv_ret ev_non)) sv_nil)
  (sv_one (sv_ret (ev_callTy cD_intS (by rfl) T.m_int (by decide +kernel) (ev_acons (ev_var (pv 0)) ev_anil))))))

theorem G_signed_in (T : Txt K mg) (U : CaOk T Z.ca) : FnOk P w K mg base (L2.CX P w) 2 T.a_signed_in T.d_signed_in p_signed_in (spF Z 1 FF_signed_in) :=
  fn_body (Z := Z) (b := fb_signed_in) T.F_signed_in sc_signed_in (by decide) (fun _ _ _ h => h) fun cdv A outer s H E C hr tk => 
  (sv_cons (sv_if (et_not (et_val (ev_startswith (ev_var (pv 0)) ev_str))) (sv_one (sv_ret (ev_call (G_number_in T U) (fun _ _ _ => len_number_in) tk (hr.mono (by omega)) (by rfl) T.g_number_in T.F_number_in.kp T.b_number_in (ev_acons (ev_var (pv 0)) ev_anil)))) sv_nil)
  (sv_cons (sv_set (i := 1) sc_signed_in.nd rfl (.inl rfl) (ev_call (G_number_in T U) (fun _ _ _ => len_number_in) tk (hr.mono (by omega)) (by rfl) T.g_number_in T.F_number_in.kp T.b_number_in (ev_acons (ev_sliceS (ev_var (pv 0)) (pd_some ev_int) pd_no) ev_anil)))
  (sv_one (sv_ret (ev_if (PW.pt (ew_or (et_cmp opD_is (ev_var (pv 1)) ev_non (nomark _)) (ew_or1 (et_cmp (opD_eq hr.units) (ev_var (pv 1)) ev_int (nomark _))))) ev_non (ev_un unD_neg (ev_var (pv 1))))))))

theorem G_numbers_in (T : Txt K mg) (U : CaOk T Z.ca) : FnOk P w K mg base (L2.CX P w) 2 T.a_numbers_in T.d_numbers_in p_numbers_in (spF Z 1 FF_numbers_in) :=
  fn_body (Z := Z) (b := fb_numbers_in) T.F_numbers_in sc_numbers_in (by decide) (fun _ _ _ h => h) fun cdv A outer s H E C hr tk => 
  (sv_cons (sv_setLc (i := 1) (own := [("word", 2)]) (S := [2]) (sh := []) rfl sc_numbers_in.nd (iv_seq (ev_split (ev_var (pv 0)) ev_str)) (blkOk_by (own := [("word", 2)]) (N := n_numbers_in) (sc := defScope s_numbers_in) (by decide +kernel)) (fun C hw s H A cl fp => (gv_name (i := 2) sc_numbers_in.nd rfl (.inl rfl))) (fun _ _ _ _ _ => ex_yes) (fun C hw s H A cl fp => (ev_call (G_number_in T U) (fun _ _ _ => len_number_in) (takes_dead hw) (hr.mono (by omega)) (by rfl) T.g_number_in T.F_number_in.kp T.b_number_in (ev_acons (ev_var (pv 2)) ev_anil))) rfl rfl (sw_true rfl rfl rfl (by decide +kernel)))
  (sv_one (sv_ret (ev_if (et_cmp (opD_in (units65 hr)) ev_non (ev_var (pv 1)) (by rfl)) ev_non (ev_callTy cD_tuple (by rfl) T.m_tuple (by decide +kernel) (ev_acons (ev_var (pv 1)) ev_anil))))))

theorem G_step_in (T : Txt K mg) (U : CaOk T Z.ca) : FnOk P w K mg base (L2.CX P w) 3 T.a_step_in T.d_step_in p_step_in (spF Z 1 FF_step_in) :=
  fn_body (Z := Z) (b := fb_step_in) T.F_step_in sc_step_in (by decide) (fun _ _ _ h => h) fun cdv A outer s H E C hr tk => 
  (sv_cons (sv_asg (S := [1, 2, 3]) (ev_partition (ev_var (pv 0)) ev_str) (gv_tup rfl (gv_cons (gv_name (i := 1) sc_step_in.nd rfl (.inl rfl)) (gv_cons (gv_name (i := 2) sc_step_in.nd rfl (.inl rfl)) (gv_cons (gv_name (i := 3) sc_step_in.nd rfl (.inl rfl)) gv_nil)))))
  (sv_cons (sv_set (i := 4) sc_step_in.nd rfl (.inl rfl) (ev_tup (ev_acons (ev_call (G_number_in T U) (fun _ _ _ => len_number_in) tk (hr.mono (by omega)) (by rfl) T.g_number_in T.F_number_in.kp T.b_number_in (ev_acons (ev_var (pv 1)) ev_anil)) (ev_acons (ev_call (G_signed_in T U) (fun _ _ _ => len_signed_in) tk (hr.mono (by omega)) (by rfl) T.g_signed_in T.F_signed_in.kp T.b_signed_in (ev_acons (ev_var (pv 3)) ev_anil)) ev_anil))))
  (sv_one (sv_ret (ev_if (et_cmp (opD_in (units65 hr)) ev_non (ev_var (pv 4)) (by rfl)) ev_non (ev_var (pv 4)))))))

theorem G_steps_in (T : Txt K mg) (U : CaOk T Z.ca) : FnOk P w K mg base (L2.CX P w) 4 T.a_steps_in T.d_steps_in p_steps_in (spF Z 1 FF_steps_in) :=
  fn_body (Z := Z) (b := fb_steps_in) T.F_steps_in sc_steps_in (by decide) (fun _ _ _ h => h) fun cdv A outer s H E C hr tk => 
  (sv_cons (sv_setLc (i := 1) (own := [("word", 2)]) (S := [2]) (sh := []) rfl sc_steps_in.nd (iv_seq (ev_var (pv 0))) (blkOk_by (own := [("word", 2)]) (N := n_steps_in) (sc := defScope s_steps_in) (by decide +kernel)) (fun C hw s H A cl fp => (gv_name (i := 2) sc_steps_in.nd rfl (.inl rfl))) (fun _ _ _ _ _ => ex_yes) (fun C hw s H A cl fp => (ev_call (G_step_in T U) (fun _ _ _ => len_step_in) (takes_dead hw) (hr.mono (by omega)) (by rfl) T.g_step_in T.F_step_in.kp T.b_step_in (ev_acons (ev_var (pv 2)) ev_anil))) rfl rfl (sw_true rfl rfl rfl (by decide +kernel)))
  (sv_one (sv_ret (ev_if (et_cmp (opD_in (units65 hr)) ev_non (ev_var (pv 1)) (by rfl)) ev_non (ev_callTy cD_tuple (by rfl) T.m_tuple (by decide +kernel) (ev_acons (ev_var (pv 1)) ev_anil))))))

theorem G_group_in (T : Txt K mg) (U : CaOk T Z.ca) : FnOk P w K mg base (L2.CX P w) 3 T.a_group_in T.d_group_in p_group_in (spF Z 1 FF_group_in) :=
  fn_body (Z := Z) (b := fb_group_in) T.F_group_in sc_group_in (by decide) (fun _ _ _ h => h) fun cdv A outer s H E C hr tk => 
  (sv_cons (sv_if (et_cmp (opD_ne hr.units) (ev_callB cD_len (by rfl) T.m_len PySem.boot_len (ev_acons (ev_var (pv 0)) ev_anil)) ev_int (nomark _)) (sv_one (sv_ret ev_non)) sv_nil)
  (sv_cons (sv_asg (S := [1, 2, 3]) (ev_var (pv 0)) (gv_lst rfl (gv_cons (gv_name (i := 1) sc_group_in.nd rfl (.inl rfl)) (gv_cons (gv_name (i := 2) sc_group_in.nd rfl (.inl rfl)) (gv_cons (gv_name (i := 3) sc_group_in.nd rfl (.inl rfl)) gv_nil)))))
  (sv_cons (sv_set (i := 4) sc_group_in.nd rfl (.inl rfl) (ev_tup (ev_acons (ev_call (G_numbers_in T U) (fun _ _ _ => len_numbers_in) tk (hr.mono (by omega)) (by rfl) T.g_numbers_in T.F_numbers_in.kp T.b_numbers_in (ev_acons (ev_var (pv 1)) ev_anil)) (ev_acons (ev_call (G_number_in T U) (fun _ _ _ => len_number_in) tk (hr.mono (by omega)) (by rfl) T.g_number_in T.F_number_in.kp T.b_number_in (ev_acons (ev_var (pv 2)) ev_anil)) (ev_acons (ev_call (G_number_in T U) (fun _ _ _ => len_number_in) tk (hr.mono (by omega)) (by rfl) T.g_number_in T.F_number_in.kp T.b_number_in (ev_acons (ev_var (pv 3)) ev_anil)) ev_anil)))))
  (sv_one (sv_ret (ev_if (et_cmp (opD_in (units65 hr)) ev_non (ev_var (pv 4)) (by rfl)) ev_non (ev_var (pv 4))))))))

theorem G_with_line (T : Txt K mg) (U : CaOk T Z.ca) : FnOk P w K mg base (L2.CX P w) 5 T.a_with_line T.d_with_line p_with_line (spF Z 2 FF_with_line) :=
  fn_body (Z := Z) (b := fb_with_line) T.F_with_line sc_with_line (by decide) (fun _ _ _ h => h) fun cdv A outer s H E C hr tk => 
  (sv_cons (sv_asg (S := [2, 3]) (ev_var (pv 0)) (gv_tup rfl (gv_cons (gv_name (i := 2) sc_with_line.nd rfl (.inl rfl)) (gv_cons (gv_name (i := 3) sc_with_line.nd rfl (.inl rfl)) gv_nil))))
  (sv_cons (sv_star (i := 4) (j := 5) rfl sc_with_line.nd rfl rfl (.inl rfl) (.inl rfl) (ev_split (ev_var (pv 1)) ev_str))
  (sv_cons (sv_if (PW.pt (ew_and (et_cmp (opD_eq hr.units) (ev_var (pv 4)) ev_str (nomark _)) (ew_and (et_cmp (opD_eq hr.units) (ev_callB cD_len (by rfl) T.m_len PySem.boot_len (ev_acons (ev_var (pv 3)) ev_anil)) ev_int (nomark _)) (ew_and1 (et_cmp opD_lt (ev_callB cD_len (by rfl) T.m_len PySem.boot_len (ev_acons (ev_var (pv 2)) ev_anil)) (ev_con (pe_glob (v := .int 6) (by rfl) T.g_MAX_ITEMS ⟨_, rfl⟩) (fun _ _ => .int _)) (nomark _)))))) (sv_cons (sv_set (i := 6) sc_with_line.nd rfl (.inl rfl) (ev_call (G_steps_in T U) (fun _ _ _ => len_steps_in) tk (hr.mono (by omega)) (by rfl) T.g_steps_in T.F_steps_in.kp T.b_steps_in (ev_acons (ev_var (pv 5)) ev_anil)))
  (sv_one (sv_if (et_val (ev_call (G_is_gains T U) (fun _ _ _ => len_is_gains) tk (hr.mono (by omega)) (by rfl) T.g_is_gains T.F_is_gains.kp T.b_is_gains (ev_acons (ev_var (pv 6)) ev_anil))) (sv_one (sv_ret (ev_tup (ev_acons (ev_tup (ev_astar (ev_var (pv 2)) (ev_acons (ev_var (pv 6)) ev_anil))) (ev_acons (ev_var (pv 3)) ev_anil))))) sv_nil))) sv_nil)
  (sv_cons (sv_if (PW.pt (ew_and (et_cmp (opD_eq hr.units) (ev_var (pv 4)) ev_str (nomark _)) (ew_and1 (et_cmp opD_lt (ev_callB cD_len (by rfl) T.m_len PySem.boot_len (ev_acons (ev_var (pv 3)) ev_anil)) (ev_con (pe_glob (v := .int 8) (by rfl) T.g_MAX_GROUPS ⟨_, rfl⟩) (fun _ _ => .int _)) (nomark _))))) (sv_cons (sv_set (i := 7) sc_with_line.nd rfl (.inl rfl) (ev_call (G_group_in T U) (fun _ _ _ => len_group_in) tk (hr.mono (by omega)) (by rfl) T.g_group_in T.F_group_in.kp T.b_group_in (ev_acons (ev_var (pv 5)) ev_anil)))
  (sv_one (sv_if (et_val (ev_call (G_may_join T U) (fun _ _ _ => len_may_join) tk (hr.mono (by omega)) (by rfl) T.g_may_join T.F_may_join.kp T.b_may_join (ev_acons (ev_var (pv 7)) (ev_acons (ev_var (pv 3)) (ev_acons (ev_callB cD_len (by rfl) T.m_len PySem.boot_len (ev_acons (ev_var (pv 2)) ev_anil)) ev_anil))))) (sv_one (sv_ret (ev_tup (ev_acons (ev_var (pv 2)) (ev_acons (ev_tup (ev_astar (ev_var (pv 3)) (ev_acons (ev_var (pv 7)) ev_anil))) ev_anil))))) sv_nil))) sv_nil)
  (sv_one (sv_ret ev_non))))))

theorem G_parse_system (T : Txt K mg) (U : CaOk T Z.ca) : FnOk P w K mg base (L2.CX P w) 6 T.a_parse_system T.d_parse_system p_parse_system (spF Z 1 FF_parse_system) :=
  fn_body (Z := Z) (b := fb_parse_system) T.F_parse_system sc_parse_system (by decide) (fun _ _ _ h => h) fun cdv A outer s H E C hr tk => 
  (sv_cons (sv_if (et_not (et_val (ev_callB cD_isi (by rfl) T.m_isinstance (by decide +kernel) (ev_acons (ev_var (pv 0)) (ev_acons (ev_con (pe_bltn (v := .ty "str") (by rfl) T.m_str (by decide +kernel) rfl) (fun _ _ => .ty _)) ev_anil))))) (sv_one (sv_raise T.e_BadText U.a_BadText (G_init_BadText T) rfl (hr.mono (by omega)) tk (by rfl) ev_non)) sv_nil)
  (sv_cons (sv_set (i := 1) sc_parse_system.nd rfl (.inl rfl) (ev_split (ev_var (pv 0)) ev_str))
  (sv_cons (sv_set (i := 2) sc_parse_system.nd rfl (.inl rfl) (ev_tup (ev_acons (ev_tup ev_anil) (ev_acons (ev_tup ev_anil) ev_anil))))
  (sv_cons (sv_for (S := [3, 4]) (by exact passes_of rfl) rfl (iv_enum (by rfl) T.m_enumerate (ev_acons (ev_slice (ev_var (pv 1)) pd_no (pd_some (ev_un unD_neg ev_int))) ev_anil)) (gv_tup rfl (gv_cons (gv_name (i := 3) sc_parse_system.nd rfl (.inl rfl)) (gv_cons (gv_name (i := 4) sc_parse_system.nd rfl (.inl rfl)) gv_nil))) (sv_cons (sv_set (i := 2) sc_parse_system.nd rfl (.inl rfl) (ev_call (G_with_line T U) (fun _ _ _ => len_with_line) tk (hr.mono (by omega)) (by rfl) T.g_with_line T.F_with_line.kp T.b_with_line (ev_acons (ev_var (pv 2)) (ev_acons (ev_var (pv 4)) ev_anil))))
  (sv_one (sv_if (et_cmp opD_is (ev_var (pv 2)) ev_non (nomark _)) (sv_one (sv_raise T.e_BadText U.a_BadText (G_init_BadText T) rfl (hr.mono (by omega)) tk (by rfl) (ev_var (pv 3)))) sv_nil))))
  (sv_cons (sv_if (PW.pt (ew_or (et_cmp (opD_ne hr.units) (ev_ix ixR (ev_var (pv 1)) (ev_un unD_neg ev_int) (fun _ _ => rfl)) ev_str (nomark _)) (ew_or1 (et_cmp (opD_eq hr.units) (ev_callB cD_len (by rfl) T.m_len PySem.boot_len (ev_acons (ev_var (pv 1)) ev_anil)) ev_int (nomark _))))) (sv_one (sv_raise T.e_BadText U.a_BadText (G_init_BadText T) rfl (hr.mono (by omega)) tk (by rfl) (ev_bin opD_sub (ev_callB cD_len (by rfl) T.m_len PySem.boot_len (ev_acons (ev_var (pv 1)) ev_anil)) ev_int))) sv_nil)
  (sv_one (sv_ret (ev_var (pv 2)))))))))

theorem Gr_q_same (T : Txt K mg) (U : CaOk T ca) : ∀ k : Nat, FnOk P w K mg base (L2.CX P w) (k) T.a_q_same T.d_q_same p_q_same (spF (Zdk Dx ca) 2 (FFr_q_same k))
  | 0 => ⟨fun _ _ _ _ h => h.1, fun _ _ _ _ _ _ _ _ _ _ _ _ _ h => (by obtain ⟨_, _, _, _, _, _, _, _, _, _, e, _⟩ := h; cases e)⟩
  | k + 1 => fn_body (Z := (Zdk Dx ca)) (b := fb_q_same (FFr_q_same k)) T.F_q_same sc_q_same (by decide) (fun _ _ _ h => h) fun cdv A outer s H E C hr tk => have IH := Gr_q_same T U k
  (sv_cons (sv_if (et_val (ev_callB cD_isi (by rfl) T.m_isinstance (by decide +kernel) (ev_acons (ev_var (pv 1)) (ev_acons (ev_tup (ev_acons (ev_con (pe_bltn (v := .ty "tuple") (by rfl) T.m_tuple (by decide +kernel) rfl) (fun _ _ => .ty _)) (ev_acons (ev_con (pe_bltn (v := .ty "list") (by rfl) T.m_list (by decide +kernel) rfl) (fun _ _ => .ty _)) ev_anil))) ev_anil)))) (sv_cons (sv_if (et_cmp (opD_ne hr.units) (ev_callB cD_isi (by rfl) T.m_isinstance (by decide +kernel) (ev_acons (ev_var (pv 0)) (ev_acons (ev_con (pe_bltn (v := .ty "tuple") (by rfl) T.m_tuple (by decide +kernel) rfl) (fun _ _ => .ty _)) ev_anil))) (ev_callB cD_isi (by rfl) T.m_isinstance (by decide +kernel) (ev_acons (ev_var (pv 1)) (ev_acons (ev_con (pe_bltn (v := .ty "tuple") (by rfl) T.m_tuple (by decide +kernel) rfl) (fun _ _ => .ty _)) ev_anil))) (nomark _)) (sv_one (sv_ret ev_bl)) sv_nil)
  (sv_cons (sv_if (et_cmp (opD_ne hr.units) (ev_callB cD_isi (by rfl) T.m_isinstance (by decide +kernel) (ev_acons (ev_var (pv 0)) (ev_acons (ev_con (pe_bltn (v := .ty "list") (by rfl) T.m_list (by decide +kernel) rfl) (fun _ _ => .ty _)) ev_anil))) (ev_callB cD_isi (by rfl) T.m_isinstance (by decide +kernel) (ev_acons (ev_var (pv 1)) (ev_acons (ev_con (pe_bltn (v := .ty "list") (by rfl) T.m_list (by decide +kernel) rfl) (fun _ _ => .ty _)) ev_anil))) (nomark _)) (sv_one (sv_ret ev_bl)) sv_nil)
  (sv_cons (sv_if (et_cmp (opD_ne hr.units) (ev_callB cD_len (by rfl) T.m_len PySem.boot_len (ev_acons (ev_var (pv 0)) ev_anil)) (ev_callB cD_len (by rfl) T.m_len PySem.boot_len (ev_acons (ev_var (pv 1)) ev_anil)) (nomark _)) (sv_one (sv_ret ev_bl)) sv_nil)
  (sv_one (sv_ret (ev_cmp (opD_eq hr.units) (ev_lc (own := [("_law_k", 2)]) (S := [2]) (sh := [0, 1]) rfl sc_q_same.nd (iv_range1 (by rfl) T.m_range (ev_acons (ev_callB cD_len (by rfl) T.m_len PySem.boot_len (ev_acons (ev_var (pv 1)) ev_anil)) ev_anil)) (blkOk_by (own := [("_law_k", 2)]) (N := n_q_same) (sc := defScope s_q_same) (by decide +kernel)) (fun C hw s H A cl fp => (gv_name (i := 2) sc_q_same.nd rfl (.inl rfl))) (fun s H A cl fp => ex_one fun C hw => (et_not (et_val (ev_call IH (fun _ _ _ => lenr_q_same) (takes_dead hw) (hr.mono (by omega)) (by rfl) T.g_q_same T.F_q_same.kp T.b_q_same (ev_acons (ev_ix ixR (ev_var (pv 0)) (ev_var (pv 2)) (fun _ _ => rfl)) (ev_acons (ev_ix ixR (ev_var (pv 1)) (ev_var (pv 2)) (fun _ _ => rfl)) ev_anil)))))) (fun C hw s H A cl fp => (ev_var (pv 2)))) (ev_lst ev_anil) (nomark _))))))) sv_nil)
  (sv_cons (sv_if (et_val (ev_callB cD_isi (by rfl) T.m_isinstance (by decide +kernel) (ev_acons (ev_var (pv 1)) (ev_acons (ev_con (pe_bltn (v := .ty "dict") (by rfl) T.m_dict (by decide +kernel) rfl) (fun _ _ => .ty _)) ev_anil)))) (sv_one (sv_ret (ev_and (ev_callB cD_isi (by rfl) T.m_isinstance (by decide +kernel) (ev_acons (ev_var (pv 0)) (ev_acons (ev_con (pe_bltn (v := .ty "dict") (by rfl) T.m_dict (by decide +kernel) rfl) (fun _ _ => .ty _)) ev_anil))) (ev_one (ev_cmp (opD_eq hr.units) (ev_var (pv 0)) (ev_var (pv 1)) (nomark _)))))) sv_nil)
  (sv_cons (sv_if (et_cmp opD_is (ev_var (pv 1)) ev_non (nomark _)) (sv_one (sv_ret (ev_cmp opD_is (ev_var (pv 0)) ev_non (nomark _)))) sv_nil)
  (sv_cons (sv_if (et_val (ev_callB cD_isi (by rfl) T.m_isinstance (by decide +kernel) (ev_acons (ev_var (pv 1)) (ev_acons (ev_con (pe_bltn (v := .ty "str") (by rfl) T.m_str (by decide +kernel) rfl) (fun _ _ => .ty _)) ev_anil)))) (sv_one (sv_ret (ev_and (ev_callB cD_isi (by rfl) T.m_isinstance (by decide +kernel) (ev_acons (ev_var (pv 0)) (ev_acons (ev_con (pe_bltn (v := .ty "str") (by rfl) T.m_str (by decide +kernel) rfl) (fun _ _ => .ty _)) ev_anil))) (ev_one (ev_cmp (opD_eq hr.units) (ev_var (pv 0)) (ev_var (pv 1)) (nomark _)))))) sv_nil)
  (sv_one (sv_ret (ev_and (ev_callB cD_isi (by rfl) T.m_isinstance (by decide +kernel) (ev_acons (ev_var (pv 0)) (ev_acons (ev_con (pe_bltn (v := .ty "int") (by rfl) T.m_int (by decide +kernel) rfl) (fun _ _ => .ty _)) ev_anil))) (ev_and (ev_cmp (opD_eq hr.units) (ev_callB cD_isi (by rfl) T.m_isinstance (by decide +kernel) (ev_acons (ev_var (pv 0)) (ev_acons (ev_con (pe_bltn (v := .ty "bool") (by rfl) T.m_bool (by decide +kernel) rfl) (fun _ _ => .ty _)) ev_anil))) (ev_callB cD_isi (by rfl) T.m_isinstance (by decide +kernel) (ev_acons (ev_var (pv 1)) (ev_acons (ev_con (pe_bltn (v := .ty "bool") (by rfl) T.m_bool (by decide +kernel) rfl) (fun _ _ => .ty _)) ev_anil))) (nomark _)) (ev_one (ev_cmp (opD_eq hr.units) (ev_var (pv 0)) (ev_var (pv 1)) (nomark _)))))))))))
theorem G_q_same (T : Txt K mg) (U : CaOk T ca) : FnOk P w K mg base (L2.CX P w) 12 T.a_q_same T.d_q_same p_q_same (spF (Zdk Dx ca) 2 FF_q_same) := Gr_q_same T U 12

theorem G_q_shuffled (T : Txt K mg) (U : CaOk T ca) : FnOk P w K mg base (L2.CX P w) 2 T.a_q_shuffled T.d_q_shuffled p_q_shuffled (spF (Zdk Dx ca) 2 FF_q_shuffled) :=
  fn_body (Z := (Zdk Dx ca)) (b := fb_q_shuffled) T.F_q_shuffled sc_q_shuffled (by decide) (fun _ _ _ h => h) fun cdv A outer s H E C hr tk => 
  (sv_cons (sv_parN (i := 2) (j := 3) rfl sc_q_shuffled.nd rfl rfl (by decide) rfl rfl (ev_callTy cD_list (by rfl) T.m_list (by decide +kernel) (ev_acons (ev_var (pv 1)) ev_anil)) (by rfl))
  (sv_cons (sv_while (by exact passes_of rfl) (et_cmp (opD_ne hr.units) (ev_var (pv 2)) (ev_lst ev_anil) (nomark _)) (sv_one (sv_expr (ev_append (pv 3) (ev_acons (ev_pop (pv 2) (ev_acons (ev_call (G_q_next T) (fun _ _ _ => len_q_next) tk (hr.mono (by omega)) (by rfl) T.g_q_next T.F_q_next.kp T.b_q_next (ev_acons (ev_var (pv 0)) (ev_acons (ev_callB cD_len (by rfl) T.m_len PySem.boot_len (ev_acons (ev_var (pv 2)) ev_anil)) ev_anil))) ev_anil)) ev_anil)))))
  (sv_one (sv_ret (ev_var (pv 3))))))

theorem G_q_nested (T : Txt K mg) (U : CaOk T ca) : FnOk P w K mg base (L2.CX P w) 3 T.a_q_nested T.d_q_nested p_q_nested (spF (Zdk Dx ca) 2 FF_q_nested) :=
  fn_body (Z := (Zdk Dx ca)) (b := fb_q_nested) T.F_q_nested sc_q_nested (by decide) (fun _ _ _ h => h) fun cdv A outer s H E C hr tk => 
  (sv_cons (sv_parBN (i := 2) (j := 3) (l := 4) rfl sc_q_nested.nd rfl rfl rfl (by decide) (by decide) (by decide) rfl rfl rfl (ev_call (G_q_shuffled T U) (fun _ _ _ => len_q_shuffled) tk (hr.mono (by omega)) (by rfl) T.g_q_shuffled T.F_q_shuffled.kp T.b_q_shuffled (ev_acons (ev_var (pv 0)) (ev_acons (ev_lrng1 rfl (by rfl) T.m_list (by rfl) T.m_range (ev_var (pv 1))) ev_anil))) (fun C hw => (ev_lst (ev_acons (ev_tup (ev_acons ev_int (ev_acons (ev_var (pv 1)) ev_anil))) ev_anil))) (by rfl))
  (sv_cons (sv_while (by exact passes_of rfl) (et_cmp (opD_ne hr.units) (ev_var (pv 3)) (ev_lst ev_anil) (nomark _)) (sv_cons (sv_asg (S := [5, 6]) (ev_pop0 (pv 3)) (gv_tup rfl (gv_cons (gv_name (i := 5) sc_q_nested.nd rfl (.inl rfl)) (gv_cons (gv_name (i := 6) sc_q_nested.nd rfl (.inl rfl)) gv_nil))))
  (sv_cons (sv_if (PW.pt (ew_and (et_cmp opD_gt (ev_call (G_q_next T) (fun _ _ _ => len_q_next) tk (hr.mono (by omega)) (by rfl) T.g_q_next T.F_q_next.kp T.b_q_next (ev_acons (ev_var (pv 0)) (ev_acons ev_int ev_anil))) ev_int (nomark _)) (ew_and1 (et_cmp opD_lt (ev_callB cD_len (by rfl) T.m_len PySem.boot_len (ev_acons (ev_var (pv 4)) ev_anil)) ev_int (nomark _))))) (sv_one (sv_expr (ev_append (pv 4) (ev_acons (ev_callTy cD_tuple (by rfl) T.m_tuple (by decide +kernel) (ev_acons (ev_callB cD_sort (by rfl) T.m_sorted (by decide +kernel) (ev_acons (ev_slice (ev_var (pv 2)) (pd_some (ev_var (pv 5))) (pd_some (ev_var (pv 6)))) ev_anil)) ev_anil)) ev_anil)))) sv_nil)
  (sv_one (sv_if (et_cmp opD_gt (ev_bin opD_sub (ev_var (pv 6)) (ev_var (pv 5))) ev_int (nomark _)) (sv_cons (sv_set (i := 7) sc_q_nested.nd rfl (.inl rfl) (ev_bin opD_add (ev_bin opD_add (ev_var (pv 5)) ev_int) (ev_call (G_q_next T) (fun _ _ _ => len_q_next) tk (hr.mono (by omega)) (by rfl) T.g_q_next T.F_q_next.kp T.b_q_next (ev_acons (ev_var (pv 0)) (ev_acons (ev_bin opD_sub (ev_bin opD_sub (ev_var (pv 6)) (ev_var (pv 5))) ev_int) ev_anil)))))
  (sv_one (sv_set (i := 3) sc_q_nested.nd rfl (.inl rfl) (ev_bin opD_add (ev_var (pv 3)) (ev_lst (ev_acons (ev_tup (ev_acons (ev_var (pv 5)) (ev_acons (ev_var (pv 7)) ev_anil))) (ev_acons (ev_tup (ev_acons (ev_var (pv 7)) (ev_acons (ev_var (pv 6)) ev_anil))) ev_anil))))))) sv_nil)))))
  (sv_one (sv_ret (ev_call (G_q_shuffled T U) (fun _ _ _ => len_q_shuffled) tk (hr.mono (by omega)) (by rfl) T.g_q_shuffled T.F_q_shuffled.kp T.b_q_shuffled (ev_acons (ev_var (pv 0)) (ev_acons (ev_var (pv 4)) ev_anil)))))))

theorem G_q_wide_gains (T : Txt K mg) (U : CaOk T ca) : FnOk P w K mg base (L2.CX P w) 2 T.a_q_wide_gains T.d_q_wide_gains p_q_wide_gains (spF (Zdk Dx ca) 1 FF_q_wide_gains) :=
  fn_body (Z := (Zdk Dx ca)) (b := fb_q_wide_gains) T.F_q_wide_gains sc_q_wide_gains (by decide) (fun _ _ _ h => h) fun cdv A outer s H E C hr tk => 
  (sv_cons (sv_par3 (i := 1) (j := 2) (l := 3) rfl sc_q_wide_gains.nd rfl rfl rfl (by decide) (by decide) (by decide) rfl rfl rfl (ev_call (G_q_next T) (fun _ _ _ => len_q_next) tk (hr.mono (by omega)) (by rfl) T.g_q_next T.F_q_next.kp T.b_q_next (ev_acons (ev_var (pv 0)) (ev_acons ev_int ev_anil))) (ev_ix ixR (ev_lst (ev_acons (ev_bin opD_pow ev_int ev_int) (ev_acons ev_int (ev_acons (ev_call (G_q_next T) (fun _ _ _ => len_q_next) tk (hr.mono (by omega)) (by rfl) T.g_q_next T.F_q_next.kp T.b_q_next (ev_acons (ev_var (pv 0)) (ev_acons (ev_bin opD_pow ev_int ev_int) ev_anil))) ev_anil)))) (ev_call (G_q_next T) (fun _ _ _ => len_q_next) tk (hr.mono (by omega)) (by rfl) T.g_q_next T.F_q_next.kp T.b_q_next (ev_acons (ev_var (pv 0)) (ev_acons ev_int ev_anil))) (fun _ _ => rfl)) (ev_lst ev_anil) (by rfl))
  (sv_cons (sv_for (S := [4]) (by exact passes_of rfl) rfl (iv_range1 (by rfl) T.m_range (ev_acons (ev_var (pv 1)) ev_anil)) (gv_name (i := 4) sc_q_wide_gains.nd rfl (.inl rfl)) (sv_cons (sv_expr (ev_append (pv 3) (ev_acons (ev_tup (ev_acons (ev_bin opD_add ev_int (ev_call (G_q_next T) (fun _ _ _ => len_q_next) tk (hr.mono (by omega)) (by rfl) T.g_q_next T.F_q_next.kp T.b_q_next (ev_acons (ev_var (pv 0)) (ev_acons (ev_ix ixR (ev_lst (ev_acons ev_int (ev_acons ev_int (ev_acons (ev_bin opD_mul ev_int (ev_bin opD_pow ev_int ev_int)) ev_anil)))) (ev_call (G_q_next T) (fun _ _ _ => len_q_next) tk (hr.mono (by omega)) (by rfl) T.g_q_next T.F_q_next.kp T.b_q_next (ev_acons (ev_var (pv 0)) (ev_acons ev_int ev_anil))) (fun _ _ => rfl)) ev_anil)))) (ev_acons (ev_var (pv 2)) ev_anil))) ev_anil)))
  (sv_one (sv_set (i := 2) sc_q_wide_gains.nd rfl (.inl rfl) (ev_bin opD_sub (ev_bin opD_sub (ev_var (pv 2)) ev_int) (ev_call (G_q_next T) (fun _ _ _ => len_q_next) tk (hr.mono (by omega)) (by rfl) T.g_q_next T.F_q_next.kp T.b_q_next (ev_acons (ev_var (pv 0)) (ev_acons (ev_ix ixR (ev_lst (ev_acons ev_int (ev_acons (ev_bin opD_mul ev_int (ev_bin opD_pow ev_int ev_int)) ev_anil))) (ev_call (G_q_next T) (fun _ _ _ => len_q_next) tk (hr.mono (by omega)) (by rfl) T.g_q_next T.F_q_next.kp T.b_q_next (ev_acons (ev_var (pv 0)) (ev_acons ev_int ev_anil))) (fun _ _ => rfl)) ev_anil))))))))
  (sv_one (sv_ret (ev_callTy cD_tuple (by rfl) T.m_tuple (by decide +kernel) (ev_acons (ev_var (pv 3)) ev_anil))))))

theorem G_q_wide_system (T : Txt K mg) (U : CaOk T ca) : FnOk P w K mg base (L2.CX P w) 4 T.a_q_wide_system T.d_q_wide_system p_q_wide_system (spF (Zdk Dx ca) 1 FF_q_wide_system) :=
  fn_body (Z := (Zdk Dx ca)) (b := fb_q_wide_system) T.F_q_wide_system sc_q_wide_system (by decide) (fun _ _ _ h => h) fun cdv A outer s H E C hr tk => 
  (sv_cons (sv_set (i := 1) sc_q_wide_system.nd rfl (.inl rfl) (ev_callTy cD_tuple (by rfl) T.m_tuple (by decide +kernel) (ev_acons (ev_lc (own := [("_law_k", 5)]) (S := [5]) (sh := [0]) rfl sc_q_wide_system.nd (iv_range1 (by rfl) T.m_range (ev_acons (ev_bin opD_add ev_int (ev_call (G_q_next T) (fun _ _ _ => len_q_next) tk (hr.mono (by omega)) (by rfl) T.g_q_next T.F_q_next.kp T.b_q_next (ev_acons (ev_var (pv 0)) (ev_acons ev_int ev_anil)))) ev_anil)) (blkOk_by (own := [("_law_k", 5)]) (N := n_q_wide_system) (sc := defScope s_q_wide_system) (by decide +kernel)) (fun C hw s H A cl fp => (gv_name (i := 5) sc_q_wide_system.nd rfl (.inl rfl))) (fun _ _ _ _ _ => ex_yes) (fun C hw s H A cl fp => (ev_call (G_q_wide_gains T U) (fun _ _ _ => len_q_wide_gains) (takes_dead hw) (hr.mono (by omega)) (by rfl) T.g_q_wide_gains T.F_q_wide_gains.kp T.b_q_wide_gains (ev_acons (ev_var (pv 0)) ev_anil)))) ev_anil)))
  (sv_cons (sv_set (i := 2) sc_q_wide_system.nd rfl (.inl rfl) (ev_lst ev_anil))
  (sv_cons (sv_for (S := [3]) (by exact passes_of rfl) rfl (iv_seq (ev_call (G_q_nested T U) (fun _ _ _ => len_q_nested) tk (hr.mono (by omega)) (by rfl) T.g_q_nested T.F_q_nested.kp T.b_q_nested (ev_acons (ev_var (pv 0)) (ev_acons (ev_callB cD_len (by rfl) T.m_len PySem.boot_len (ev_acons (ev_var (pv 1)) ev_anil)) ev_anil)))) (gv_name (i := 3) sc_q_wide_system.nd rfl (.inl rfl)) (sv_cons (sv_set (i := 4) sc_q_wide_system.nd rfl (.inl rfl) (ev_callB cD_sort (by rfl) T.m_sorted (by decide +kernel) (ev_acons (ev_lc (own := [("_law_k", 5)]) (S := [5]) (sh := [0]) rfl sc_q_wide_system.nd (iv_range1 (by rfl) T.m_range (ev_acons ev_int ev_anil)) (blkOk_by (own := [("_law_k", 5)]) (N := n_q_wide_system) (sc := defScope s_q_wide_system) (by decide +kernel)) (fun C hw s H A cl fp => (gv_name (i := 5) sc_q_wide_system.nd rfl (.inl rfl))) (fun _ _ _ _ _ => ex_yes) (fun C hw s H A cl fp => (ev_call (G_q_next T) (fun _ _ _ => len_q_next) (takes_dead hw) (hr.mono (by omega)) (by rfl) T.g_q_next T.F_q_next.kp T.b_q_next (ev_acons (ev_var (pv 0)) (ev_acons (ev_ix ixR (ev_lst (ev_acons ev_int (ev_acons (ev_bin opD_add (ev_bin opD_pow ev_int ev_int) ev_int) ev_anil))) (ev_call (G_q_next T) (fun _ _ _ => len_q_next) (takes_dead hw) (hr.mono (by omega)) (by rfl) T.g_q_next T.F_q_next.kp T.b_q_next (ev_acons (ev_var (pv 0)) (ev_acons ev_int ev_anil))) (fun _ _ => rfl)) ev_anil))))) ev_anil)))
  (sv_one (sv_expr (ev_append (pv 2) (ev_acons (ev_tup (ev_acons (ev_var (pv 3)) (ev_acons (ev_ix ixR (ev_var (pv 4)) ev_int (fun _ _ => rfl)) (ev_acons (ev_ix ixR (ev_var (pv 4)) ev_int (fun _ _ => rfl)) ev_anil)))) ev_anil))))))
  (sv_one (sv_ret (ev_tup (ev_acons (ev_var (pv 1)) (ev_acons (ev_callTy cD_tuple (by rfl) T.m_tuple (by decide +kernel) (ev_acons (ev_var (pv 2)) ev_anil)) ev_anil))))))))

theorem G_q_item_line (T : Txt K mg) (U : CaOk T ca) : FnOk P w K mg base (L2.CX P w) 1 T.a_q_item_line T.d_q_item_line p_q_item_line (spF (Zdk Dx ca) 1 FF_q_item_line) :=
  fn_body (Z := (Zdk Dx ca)) (b := fb_q_item_line) T.F_q_item_line sc_q_item_line (by decide) (fun _ _ _ h => h) fun cdv A outer s H E C hr tk => 
  (sv_one (sv_ret (ev_join ev_str (ev_bin opD_add (ev_lst (ev_acons ev_str ev_anil)) (ev_lc (own := [("_law_count", 1), ("_law_gain", 2)]) (S := [1, 2]) (sh := []) rfl sc_q_item_line.nd (iv_seq (ev_var (pv 0))) (blkOk_by (own := [("_law_count", 1), ("_law_gain", 2)]) (N := n_q_item_line) (sc := defScope s_q_item_line) (by decide +kernel)) (fun C hw s H A cl fp => (gv_tup rfl (gv_cons (gv_name (i := 1) sc_q_item_line.nd rfl (.inl rfl)) (gv_cons (gv_name (i := 2) sc_q_item_line.nd rfl (.inl rfl)) gv_nil)))) (fun _ _ _ _ _ => ex_yes) (fun C hw s H A cl fp => (ev_bin opD_addS (ev_bin opD_addS (ev_callTy cD_str (by rfl) T.m_str (by decide +kernel) (ev_acons (ev_var (pv 1)) ev_anil)) ev_str) (ev_callTy cD_str (by rfl) T.m_str (by decide +kernel) (ev_acons (ev_var (pv 2)) ev_anil)))))))))

theorem G_q_text (T : Txt K mg) (U : CaOk T ca) : FnOk P w K mg base (L2.CX P w) 2 T.a_q_text T.d_q_text p_q_text (spF (Zdk Dx ca) 1 FF_q_text) :=
  fn_body (Z := (Zdk Dx ca)) (b := fb_q_text) T.F_q_text sc_q_text (by decide) (fun _ _ _ h => h) fun cdv A outer s H E C hr tk => 
  (sv_cons (sv_setLc (i := 1) (own := [("_law_gains", 5)]) (S := [5]) (sh := []) rfl sc_q_text.nd (iv_seq (ev_ix ixR (ev_var (pv 0)) ev_int (fun _ _ => rfl))) (blkOk_by (own := [("_law_gains", 5)]) (N := n_q_text) (sc := defScope s_q_text) (by decide +kernel)) (fun C hw s H A cl fp => (gv_name (i := 5) sc_q_text.nd rfl (.inl rfl))) (fun _ _ _ _ _ => ex_yes) (fun C hw s H A cl fp => (ev_call (G_q_item_line T U) (fun _ _ _ => len_q_item_line) (takes_dead hw) (hr.mono (by omega)) (by rfl) T.g_q_item_line T.F_q_item_line.kp T.b_q_item_line (ev_acons (ev_var (pv 5)) ev_anil))) rfl rfl (sw_true rfl rfl rfl (by decide +kernel)))
  (sv_cons (sv_for (S := [2, 3, 4]) (by exact passes_of rfl) rfl (iv_seq (ev_ix ixR (ev_var (pv 0)) ev_int (fun _ _ => rfl))) (gv_tup rfl (gv_cons (gv_name (i := 2) sc_q_text.nd rfl (.inl rfl)) (gv_cons (gv_name (i := 3) sc_q_text.nd rfl (.inl rfl)) (gv_cons (gv_name (i := 4) sc_q_text.nd rfl (.inl rfl)) gv_nil)))) (sv_one (sv_expr (ev_append (pv 1) (ev_acons (ev_join ev_str (ev_lst (ev_acons ev_str (ev_acons (ev_join ev_str (ev_lc (own := [("_law_item", 7)]) (S := [7]) (sh := []) rfl sc_q_text.nd (iv_seq (ev_var (pv 2))) (blkOk_by (own := [("_law_item", 7)]) (N := n_q_text) (sc := defScope s_q_text) (by decide +kernel)) (fun C hw s H A cl fp => (gv_name (i := 7) sc_q_text.nd rfl (.inl rfl))) (fun _ _ _ _ _ => ex_yes) (fun C hw s H A cl fp => (ev_callTy cD_str (by rfl) T.m_str (by decide +kernel) (ev_acons (ev_var (pv 7)) ev_anil))))) (ev_acons (ev_callTy cD_str (by rfl) T.m_str (by decide +kernel) (ev_acons (ev_var (pv 3)) ev_anil)) (ev_acons (ev_callTy cD_str (by rfl) T.m_str (by decide +kernel) (ev_acons (ev_var (pv 4)) ev_anil)) ev_anil)))))) ev_anil)))))
  (sv_one (sv_ret (ev_join ev_str (ev_lc (own := [("_law_line", 6)]) (S := [6]) (sh := []) rfl sc_q_text.nd (iv_seq (ev_var (pv 1))) (blkOk_by (own := [("_law_line", 6)]) (N := n_q_text) (sc := defScope s_q_text) (by decide +kernel)) (fun C hw s H A cl fp => (gv_name (i := 6) sc_q_text.nd rfl (.inl rfl))) (fun _ _ _ _ _ => ex_yes) (fun C hw s H A cl fp => (ev_bin opD_addS (ev_var (pv 6)) ev_str))))))))

end
end FD

set_option maxHeartbeats 4000000
namespace FD
open PySem PySem.Spec PyProof.Rows L2
section
variable {P : Program} {w : World} {K : PySem.W.Frag} {mg : Str → Option Value} {base : Heap}
theorem ok_q_deck (T : Txt K mg) : FnOk P w K mg base CX0 1 T.a_q_deck T.d_q_deck p_q_deck (sp_q_deck K) := by
  refine T.F_q_deck.ok sc_q_deck (fun vs H Q E h => ?_) (fun cdv A outer s H vs Q E hr h => ?_)
  · obtain ⟨a, ns, rfl, _⟩ := h
    rfl
  · obtain ⟨a, ns, rfl, hS, hl, q⟩ := h
    refine ⟨_, (pss_cons (ps_setLc (i := 1) (own := [("_law_cell", 2)]) (g := (gName 2)) (tt := tYes) rfl sc_q_deck.nd rfl rfl (sw_true rfl rfl rfl (by decide +kernel)) (pi_list (pv 0)) (blkOk_by (own := [("_law_cell", 2)]) (N := n_q_deck) (sc := defScope s_q_deck) (by decide +kernel)) (fun _ _ _ _ _ => (pg_name (i := 2) sc_q_deck.nd rfl (.inl rfl))) (fun _ _ _ _ _ => pts_nil) (fun _ _ _ _ _ => (pe_callB call_abs (by rfl) T.m_abs (by decide +kernel) (pa_cons (pv 2) pa_nil))))
(pss_one (ps_ret (pe_lst (pa_cons (pe_lc (own := [("_law_cell", 2)]) (g := (gName 2)) (tt := _) rfl sc_q_deck.nd (pi_list (pv 1)) (blkOk_by (own := [("_law_cell", 2)]) (N := n_q_deck) (sc := defScope s_q_deck) (by decide +kernel)) (fun _ _ _ _ _ => (pg_name (i := 2) sc_q_deck.nd rfl (.inl rfl))) (fun _ _ _ _ _ => pts_one (pt_cmpR op_ge (pv 2) (pe_op op_pow pe_int pe_int) (nomark _))) (fun _ _ _ _ _ => (pv 2))) (pa_cons (pe_op op_cat (pv 1) (pe_lst (pa_cons (pe_op op_add (pe_callB (call_len_seq) (by rfl) T.m_len PySem.boot_len (pa_cons (pv 1) pa_nil)) pe_int) pa_nil))) (pa_cons pe_int pa_nil))))))), ?_⟩
    refine ⟨.ref a, rfl, a, rfl, ⟨_, hS⟩, fun C nC => lc_list (K := K) (a := a) (xs := ns.map V.int) (fun i H' => Same H H' ∧ H' C = some (.lst (((ns.take i).map absI).map V.int)))
      ⟨same_new nC, upd_same⟩ (fun i H' _ h => h.1.seq hS) (fun i x H' hx hp => ?_) (fun H1 hp => ?_)⟩
    · obtain ⟨sm, eC⟩ := hp
      rw [List.getElem?_map] at hx
      cases e : ns[i]? with
      | none => rw [e] at hx; cases hx
      | some n =>
        rw [e] at hx
        cases hx
        refine ⟨rfl, ⟨_, rfl, n, rfl, _, eC, ?_, same_set sm nC, ?_⟩⟩
        · rw [List.length_map, List.length_map, List.length_take]
          exact small1000 (by omega)
        · rw [upd_same, List.take_add_one, e, List.map_append, List.map_append]
          rfl
    · obtain ⟨sm, eC⟩ := hp
      rw [List.length_map] at eC
      rw [List.take_length] at eC
      have hC : SqL K H1 C ((ns.map absI).map V.int) := .inl (.inl eC)
      refine ⟨_, rfl, C, rfl, ⟨_, hC⟩, fun B nB => lc_list (K := K) (a := C) (xs := (ns.map absI).map V.int) (fun i H' => Same H1 H' ∧ H' B = some (.lst ((bigs ((ns.map absI).take i)).map V.int)))
        ⟨same_new nB, upd_same⟩ (fun i H' _ h => h.1.seq hC) (fun i x H' hx hp => ?_) (fun H2 hp => ?_)⟩
      · obtain ⟨sm1, eB⟩ := hp
        rw [List.getElem?_map] at hx
        cases e : (ns.map absI)[i]? with
        | none => rw [e] at hx; cases hx
        | some n =>
          rw [e] at hx
          cases hx
          refine ⟨rfl, _, rfl, _, _, rfl, rfl, ⟨by decide, by decide, by decide⟩, _, _, rfl, rfl, _, rfl, ite2 (fun c => ?_) (fun c => ?_)⟩
          · have c' : (1000000000000000000 : Int) ≤ n := of_decide_eq_true c
            refine ⟨_, rfl, _, eB, ?_, same_set sm1 nB, ?_⟩
            · rw [List.length_map]
              have := List.length_filter_le (fun n => decide ((1000000000000000000 : Int) ≤ n)) ((ns.map absI).take i)
              rw [List.length_take, List.length_map] at this
              exact small1000 (by unfold bigs; omega)
            · rw [upd_same, bigs_take e, if_pos c', List.map_append]
              rfl
          · have c' : ¬ (1000000000000000000 : Int) ≤ n := fun z => c (decide_eq_true z)
            refine ⟨sm1, ?_⟩
            rw [bigs_take e, if_neg c', List.append_nil]
            exact eB
      · obtain ⟨sm1, eB⟩ := hp
        have nCB : C ≠ B := ne_of_none eC nB
        refine ⟨_, rfl, _, rfl, C, _, rfl, .inl (sm1.seq hC), _, _, rfl, rfl, le_line (by simp), fun p np => ?_⟩
        refine ⟨C, p, _, _, rfl, rfl, by rw [upd_ne (ne_of_none (sm1 _ _ eC) np)]; exact sm1 _ _ eC, upd_same, ?_, fun r nr => ⟨le_line (by simp), fun D nD => ?_⟩⟩
        · rw [List.length_map, List.length_map]
          exact Nat.le_of_lt (small1000 (by show ns.length + 1 ≤ 1000; omega))
        · have sA : Same H (upd (upd (upd H2 p (.lst [V.int (((ns.map absI).map V.int).length + 3)])) r (.lst ((ns.map absI).map V.int ++ [V.int (((ns.map absI).map V.int).length + 3)]))) D (.lst [.ref B, .ref r, .int 0])) :=
            ((sm.trans sm1).trans (same_new np)).trans ((same_new nr).trans (same_new nD))
          have eBp : (upd H2 p (.lst [V.int (((ns.map absI).map V.int).length + 3)])) B = some (.lst ((bigs (((ns.map absI)).take ((ns.map absI).map V.int).length)).map V.int)) := upd_keep np eB
          have hDB : D ≠ B := (ne_of_none (upd_keep nr eBp) nD).symm
          have hrB : r ≠ B := (ne_of_none eBp nr).symm
          have hDr : D ≠ r := fun z => by
            rw [z, upd_same] at nD
            cases nD
          have nr0 : H r = none := Same.free ((sm.trans sm1).trans (same_new np)) nr
          have nD0 : H D = none := Same.free (((sm.trans sm1).trans (same_new np)).trans (same_new nr)) nD
          have nB0 : H B = none := Same.free sm nB
          refine q _ ⟨D, B, r⟩ (bigs ((ns.map absI).take ((ns.map absI).map V.int).length)) (ns.map absI ++ [((((ns.map absI).map V.int).length : Nat) : Int) + 3]) sA nD0 nB0 nr0 ⟨?_, ?_, ?_, ?_, hDB, hDr, hrB⟩
          · rw [upd_same]
            rfl
          · rw [upd_ne hDB.symm]
            exact upd_keep nr eBp
          · rw [upd_ne hDr.symm, upd_same, List.map_append]
            rfl
          · rw [List.length_append]
            show 0 < _ + 1
            omega


theorem ok_law (T : Txt K mg) (ca : Str → Addr) (U : CaOk T ca) (pure_ : ∀ t : DS, t.c = 0 → ∃ s', fb_law (lawS 7, t) = some (.rt (.d (.bl true)), s')) : FnG P w K mg base (L2.CX P w) 13 T.a_law T.d_law p_law (sp_law K) := by
  refine fun_okG T.F_law sc_law (fun vs H Q E h => ?_) fun cdv B outer s H vs Q E hB hr h => ?_
  · obtain ⟨a, ns, rfl, _⟩ := h
    rfl
  obtain ⟨a, ns, rfl, hS, hl, q⟩ := h
  have hG : (cxOf (L2.CX P w) P w K mg base n_law "law" (defScope s_law) T.a_law cdv B outer s H E).A.guards = some [] := hB
  refine ⟨_, pss_cons (ps_set (i := 1) sc_law.nd rfl (.inr rfl) (pe_call (ok_q_deck T) (hr.mono (by omega)) (by rfl) T.g_q_deck T.F_q_deck.kp T.b_q_deck .nil pass0 (pa_cons (pv 0) pa_nil))) (ex_S (fv := (fun _ => .non)) (f := fb_law) (ca0 := ca) fun Dx C hw => ?rest), ?_⟩
  case rest =>
    have tk := fun {X : Cx} => takes_dead (X := X) hw
    exact (sv_cons (sv_set (i := 2) sc_law.nd rfl (.inl rfl) (ev_lst (ev_acons (ev_tup (ev_acons (ev_tup (ev_acons (ev_tup ev_anil) ev_anil)) (ev_acons (ev_tup ev_anil) ev_anil))) (ev_acons (ev_tup (ev_acons (ev_tup (ev_acons (ev_tup (ev_acons (ev_tup (ev_acons (ev_bin opD_pow ev_int ev_int) (ev_acons (ev_un unD_neg (ev_bin opD_pow ev_int ev_int)) ev_anil))) ev_anil)) ev_anil)) (ev_acons (ev_tup (ev_acons (ev_tup (ev_acons (ev_tup (ev_acons ev_int ev_anil)) (ev_acons (ev_bin opD_pow ev_int ev_int) (ev_acons (ev_bin opD_pow ev_int ev_int) ev_anil)))) ev_anil)) ev_anil))) ev_anil))))
  (sv_cons (sv_expr (ev_append (pv 2) (ev_acons (ev_tup (ev_acons (ev_bin opD_mul (ev_tup (ev_acons (ev_tup (ev_acons (ev_tup (ev_acons ev_int (ev_acons ev_int ev_anil))) (ev_acons (ev_tup (ev_acons ev_int (ev_acons ev_int ev_anil))) (ev_acons (ev_tup (ev_acons ev_int (ev_acons ev_int ev_anil))) (ev_acons (ev_tup (ev_acons ev_int (ev_acons (ev_un unD_neg ev_int) ev_anil))) (ev_acons (ev_tup (ev_acons ev_int (ev_acons (ev_un unD_neg ev_int) ev_anil))) ev_anil)))))) ev_anil)) ev_int) (ev_acons (ev_tup (ev_acons (ev_tup (ev_acons (ev_tup (ev_acons ev_int (ev_acons ev_int (ev_acons ev_int (ev_acons ev_int (ev_acons ev_int (ev_acons ev_int ev_anil))))))) (ev_acons ev_int (ev_acons ev_int ev_anil)))) ev_anil)) ev_anil))) ev_anil)))
  (sv_cons (sv_for (S := [3]) (by exact passes_of rfl) rfl (iv_seq (ev_bin opD_add (ev_var (pv 2)) (ev_lc (own := [("_law_turn", 6)]) (S := [6]) (sh := [1]) rfl sc_law.nd (iv_range1 (by rfl) T.m_range (ev_acons ev_int ev_anil)) (blkOk_by (own := [("_law_turn", 6)]) (N := n_law) (sc := defScope s_law) (by decide +kernel)) (fun C hw s H A cl fp => (gv_name (i := 6) sc_law.nd rfl (.inl rfl))) (fun _ _ _ _ _ => ex_yes) (fun C hw s H A cl fp => (ev_call (G_q_wide_system T U) (fun _ _ _ => len_q_wide_system) (takes_dead hw) (hr.mono (by omega)) (by rfl) T.g_q_wide_system T.F_q_wide_system.kp T.b_q_wide_system (ev_acons (ev_var (pv 1)) ev_anil)))))) (gv_name (i := 3) sc_law.nd rfl (.inl rfl)) (sv_cons (sv_par (i := 4) (j := 5) rfl sc_law.nd rfl rfl (by decide) rfl rfl (ev_callB (cD_reprX hG hr.units) (by rfl) T.m_repr (by decide +kernel) (ev_acons (ev_var (pv 3)) ev_anil)) (ev_call (G_q_text T U) (fun _ _ _ => len_q_text) tk (hr.mono (by omega)) (by rfl) T.g_q_text T.F_q_text.kp T.b_q_text (ev_acons (ev_var (pv 3)) ev_anil)) (by rfl))
  (sv_cons (sv_if (PW.pt (ew_or (et_not (et_val (ev_call (G_q_same T U) (fun _ _ _ => len_q_same) tk (hr.mono (by omega)) (by rfl) T.g_q_same T.F_q_same.kp T.b_q_same (ev_acons (ev_lst (ev_acons (ev_call (G_format_system T U) (fun _ _ _ => len_format_system) tk (hr.mono (by omega)) (by rfl) T.g_format_system T.F_format_system.kp T.b_format_system (ev_acons (ev_var (pv 3)) ev_anil)) (ev_acons (ev_call (G_parse_system T U) (fun _ _ _ => len_parse_system) tk (hr.mono (by omega)) (by rfl) T.g_parse_system T.F_parse_system.kp T.b_parse_system (ev_acons (ev_var (pv 5)) ev_anil)) ev_anil))) (ev_acons (ev_lst (ev_acons (ev_var (pv 5)) (ev_acons (ev_var (pv 3)) ev_anil))) ev_anil))))) (ew_or1 (et_cmp (opD_ne hr.units) (ev_callB (cD_reprX hG hr.units) (by rfl) T.m_repr (by decide +kernel) (ev_acons (ev_var (pv 3)) ev_anil)) (ev_var (pv 4)) (nomark _))))) (sv_one (sv_ret ev_bl)) sv_nil)
  (sv_one (sv_if (et_not (et_val (ev_call (G_q_same T U) (fun _ _ _ => len_q_same) tk (hr.mono (by omega)) (by rfl) T.g_q_same T.F_q_same.kp T.b_q_same (ev_acons (ev_lst (ev_acons (ev_call (G_format_system T U) (fun _ _ _ => len_format_system) tk (hr.mono (by omega)) (by rfl) T.g_format_system T.F_format_system.kp T.b_format_system (ev_acons (ev_var (pv 3)) ev_anil)) (ev_acons (ev_call (G_parse_system T U) (fun _ _ _ => len_parse_system) tk (hr.mono (by omega)) (by rfl) T.g_parse_system T.F_parse_system.kp T.b_parse_system (ev_acons (ev_call (G_format_system T U) (fun _ _ _ => len_format_system) tk (hr.mono (by omega)) (by rfl) T.g_format_system T.F_format_system.kp T.b_format_system (ev_acons (ev_var (pv 3)) ev_anil)) ev_anil)) ev_anil))) (ev_acons (ev_lst (ev_acons (ev_var (pv 5)) (ev_acons (ev_var (pv 3)) ev_anil))) ev_anil))))) (sv_one (sv_ret ev_bl)) sv_nil)))))
  (sv_one (sv_ret ev_bl)))))
  refine ⟨_, rfl, a, ns, rfl, hS, hl, fun H' D big cells sm n1 n2 n3 at_ => ⟨D, ⟨(Zdk D ca).hid, H', dead, noEv⟩, rfl, law_rest (n := 7) rfl (by decide) rfl rfl at_ q pure_⟩⟩

end
end FD

namespace FD
open PySem PySem.Spec PyProof.Rows L2 TL
theorem str_ord {x : Str} (h : ∀ c ∈ tl x, c < 128) : ∀ B k, ord B k (.str x) = true := fun B k => by
  unfold ord
  rw [List.all_eq_true]
  intro c m
  have := h c m
  exact decide_eq_true (by omega)
theorem repr_tup {B k : Nat} {ds : List D} (h : ordA B k ds = true) (hB : B < 10 ^ 60) (hk : k < 60) (hb : blkA ds ≤ 200000) : ∃ s, reprD [.tup ds] = some (.str s, false) := by
  obtain ⟨p, e, h1, h2, h3, h4⟩ := ordA_tame hB h
  have e1 : pq (.tup ds) = some (.tuple p) := by simp [pq, e]
  have t : Tame 60 200000 (.tuple p) := ⟨by simpa only [PyData.showable] using h1, by simp only [PyData.depth]; omega, by simpa only [PyData.leavesShort] using h3, by simp only [PyData.bulk]; omega⟩
  refine ⟨(PyData.tuple p).shown, ?_⟩
  unfold reprD
  simp only [e1]
  exact if_pos ⟨rfl, t.shown_ok (by decide) (by decide)⟩
def Asci (x : Str) : Prop := ∀ c ∈ tl x, c < 128
theorem asci_lit {x : Str} (h : (tl x).all (fun c => decide (c < 128)) = true) : Asci x := fun c m => of_decide_eq_true (List.all_eq_true.mp h c m)
theorem asci_int {n : Int} : Asci (strI n) := fun c m => by
  have := strI_signs c m
  omega
theorem asci_app {a b : Str} (ha : Asci a) (hb : Asci b) : Asci (a ++ b) := fun c m => by
  rw [tl_append] at m
  rcases List.mem_append.mp m with m | m
  · exact ha c m
  · exact hb c m
theorem asci_join {sep : Str} {ys : List Str} (hs : Asci sep) (h : ∀ y ∈ ys, Asci y) : Asci (Txt.join sep ys) := fun c m => by
  rw [join_eq, tl_join] at m
  rcases joinL_mem m with m | ⟨p, mp, m⟩
  · exact hs c m
  · obtain ⟨y, my, rfl⟩ := List.mem_map.mp mp
    exact h y my c m
theorem asci_text (s : Sys) : Asci (textT s) := by
  have lit : ∀ {x : Str}, (tl x).all (fun c => decide (c < 128)) = true → Asci x := asci_lit
  refine asci_join (lit (by decide +kernel)) fun y my => ?_
  obtain ⟨l, ml, rfl⟩ := List.mem_map.mp my
  refine asci_app ?_ (lit (by decide +kernel))
  rcases List.mem_append.mp ml with ml | ml
  · obtain ⟨g, mg, rfl⟩ := List.mem_map.mp ml
    refine asci_join (lit (by decide +kernel)) fun w mw => ?_
    rcases List.mem_cons.mp mw with rfl | mw
    · exact lit (by decide +kernel)
    · obtain ⟨x, mx, rfl⟩ := List.mem_map.mp mw
      exact asci_app (asci_app asci_int (lit (by decide +kernel))) asci_int
  · obtain ⟨g, mg, rfl⟩ := List.mem_map.mp ml
    refine asci_join (lit (by decide +kernel)) fun w mw => ?_
    unfold groupW at mw
    simp only [List.mem_cons, List.not_mem_nil, or_false] at mw
    rcases mw with rfl | rfl | rfl | rfl
    · exact lit (by decide +kernel)
    · refine asci_join (lit (by decide +kernel)) fun v mv => ?_
      obtain ⟨n, mn, rfl⟩ := List.mem_map.mp mv
      exact asci_int
    · exact asci_int
    · exact asci_int
/-! ### the written systems -/
def w0 : Sys := ⟨[[]], []⟩
def w1 : Sys := ⟨[[(1000000000000, -1000000)]], [⟨[0], 1000000000000, 1000000000000⟩]⟩
def g5 : GC.Gs := [(1, 2), (1, 1), (1, 0), (1, -1), (1, -2)]
def w2 : Sys := ⟨[g5, g5, g5, g5, g5, g5], [⟨[0, 1, 2, 3, 4, 5], 0, 0⟩]⟩
theorem w0_valid : Valid w0 := by
  refine ⟨by decide, by decide, ?_, by decide, (fun _ h => by cases h), .nil⟩
  intro g m
  obtain rfl := List.mem_singleton.mp m
  exact ⟨trivial, by decide, by decide, (fun _ h => by cases h)⟩
theorem w1_valid : Valid w1 := by
  refine ⟨by decide, by decide, ?_, by decide, ?_, List.pairwise_singleton _ _⟩
  · intro g m
    obtain rfl := List.mem_singleton.mp m
    refine ⟨⟨by decide, (fun _ h => by cases h), trivial⟩, by decide, by decide, fun x m => ?_⟩
    obtain rfl := List.mem_singleton.mp m
    decide
  · intro g m
    obtain rfl := List.mem_singleton.mp m
    refine ⟨by simp [GC.Asc], by decide, fun x m => ?_, by decide, by decide, by decide⟩
    obtain rfl := List.mem_singleton.mp m
    decide
theorem w2_valid : Valid w2 := by
  refine ⟨by decide, by decide, ?_, by decide, ?_, List.pairwise_singleton _ _⟩
  · intro g m
    obtain rfl : g = g5 := by
      simp only [w2, List.mem_cons, List.not_mem_nil, or_false] at m
      rcases m with rfl | rfl | rfl | rfl | rfl | rfl <;> rfl
    refine ⟨?_, by decide, by decide, by decide⟩
    simp [g5, GC.Falls]
  · intro g m
    obtain rfl := List.mem_singleton.mp m
    refine ⟨by simp [GC.Asc], by decide, ?_, by decide, by decide, by decide⟩
    decide
theorem v_tup6 {x : D} : mulD (.tup [x]) (.int 6) = some (.tup [x, x, x, x, x, x], false) := by
  simp only [mulD]
  rw [if_pos ⟨by simp, by decide, by decide, by simp⟩]
  rfl
set_option maxHeartbeats 2000000 in
theorem pure_law : ∀ t : DS, t.c = 0 → ∃ s', fb_law (lawS 7, t) = some (.rt (.d (.bl true)), s') := by
  intro t ht
  have e0 : lawS 7 = [.no, .v (.hnd 0), .no, .no, .no, .no, .no] := rfl
  have key : wS (fb_law (lawS 7, t)) fun o _ => o = .rt (.d (.bl true)) := by
    rw [e0]
    unfold fb_law
    have p6 : powD (.int 10) (.int 6) = some (.int 1000000, false) := by
      unfold powD
      exact if_pos (by decide)
    have ap : ∀ a b c : D, appD [a, b] [c] = some ([a, b, c], .non) := fun a b c => v_app (by simp [LEN])
    simp only [fdA, List.map_cons, List.map_nil, List.length_cons, List.length_nil, List.cons_append, List.nil_append, List.replicate_succ, List.replicate_zero, Nat.zero_add, Nat.reduceAdd, Nat.reduceSub, Nat.sub_self, if_true, if_false, Bool.false_eq_true, Bool.not_true, Bool.not_false, reduceCtorEq, ite_true, ite_false, List.getElem?_cons_zero, List.getElem?_cons_succ, List.set_cons_zero, List.set_cons_succ, LEN, Nat.reduceLeDiff, Option.map_some, fvA, List.length_map, List.length_set, decide_true, decide_false, fhA, List.mem_cons, List.not_mem_nil, or_false, or_true, Nat.reduceEqDiff, Nat.succ_ne_self, fxA, fwA, fyA, and_true, true_and, imp_self, true_imp_iff, false_imp_iff, implies_true, fzA, fzW, p6, v_pow12, v_tup6, v_neg, ap, v_rng1 (j := 8) (small_of (by decide))]
    refine ⟨by rw [rngL_len]; omega, w_lcI (fun i (z : DS) => z.c ≤ t.c + 1000 * i) (fun _ d => ∃ s : Sys, d = syD s ∧ Valid s) ?_ (fun j d z hd hz => ?_) (fun out z lo po cz => ?_)⟩
    · show t.c ≤ t.c + 1000 * 0
      omega
    · have hj : j < (rngL 0 8).length := (List.getElem?_eq_some_iff.mp hd).1
      rw [rngL_len] at hj
      obtain ⟨s, z', es, hs, cs⟩ := wide_system_ok (n := 0) (t := z) (by omega)
      simp only [fdA, List.map_cons, List.map_nil, List.length_cons, List.length_nil, List.cons_append, List.nil_append, List.replicate_succ, List.replicate_zero, Nat.zero_add, Nat.reduceAdd, Nat.reduceSub, Nat.sub_self, if_true, if_false, Bool.false_eq_true, Bool.not_true, Bool.not_false, reduceCtorEq, ite_true, ite_false, List.getElem?_cons_zero, List.getElem?_cons_succ, List.set_cons_zero, List.set_cons_succ, LEN, Nat.reduceLeDiff, Option.map_some, fvA, List.length_map, List.length_set, decide_true, decide_false, fhA, List.mem_cons, List.not_mem_nil, or_false, or_true, Nat.reduceEqDiff, Nat.succ_ne_self, fxA, fwA, fyA, and_true, true_and, imp_self, true_imp_iff, false_imp_iff, implies_true, fzA, fzW, es]
      refine ⟨⟨s, rfl, hs⟩, ?_⟩
      show z'.c ≤ t.c + 1000 * (j + 1)
      omega
    · obtain ⟨ss, rfl, hss⟩ := list_of syD (P := Valid) po
      rw [List.length_map, rngL_len] at lo
      obtain ⟨L, hL⟩ : ∃ L, L = [w0, w1, w2] ++ ss := ⟨_, rfl⟩
      have cat : addD (.lst [syD w0, syD w1, syD w2]) (.lst (ss.map syD)) = some (.lst (L.map syD), true) := by
        rw [hL]
        exact v_cat (by rw [List.length_map]; simp [LEN]; omega)
      have hv : ∀ s ∈ L, Valid s := fun s m => by
        rw [hL] at m
        rcases List.mem_append.mp m with m | m
        · simp only [List.mem_cons, List.not_mem_nil, or_false] at m
          rcases m with rfl | rfl | rfl
          · exact w0_valid
          · exact w1_valid
          · exact w2_valid
        · exact hss s m
      have e0 : syD w0 = D.tup [D.tup [D.tup []], D.tup []] := rfl
      have e1 : syD w1 = D.tup [D.tup [D.tup [D.tup [D.int 1000000000000, D.int (-1000000)]]], D.tup [D.tup [D.tup [D.int 0], D.int 1000000000000, D.int 1000000000000]]] := rfl
      have e2 : syD w2 = D.tup [D.tup [gD g5, gD g5, gD g5, gD g5, gD g5, gD g5], D.tup [D.tup [D.tup [D.int 0, D.int 1, D.int 2, D.int 3, D.int 4, D.int 5], D.int 0, D.int 0]]] := rfl
      have e3 : gD g5 = D.tup [D.tup [D.int 1, D.int 2], D.tup [D.int 1, D.int 1], D.tup [D.int 1, D.int 0], D.tup [D.int 1, D.int (-1)], D.tup [D.int 1, D.int (-2)]] := rfl
      rw [e0, e1, e2, e3] at cat
      simp only [fdA, List.map_cons, List.map_nil, List.length_cons, List.length_nil, List.cons_append, List.nil_append, List.replicate_succ, List.replicate_zero, Nat.zero_add, Nat.reduceAdd, Nat.reduceSub, Nat.sub_self, if_true, if_false, Bool.false_eq_true, Bool.not_true, Bool.not_false, reduceCtorEq, ite_true, ite_false, List.getElem?_cons_zero, List.getElem?_cons_succ, List.set_cons_zero, List.set_cons_succ, LEN, Nat.reduceLeDiff, Option.map_some, fvA, List.length_map, List.length_set, decide_true, decide_false, fhA, List.mem_cons, List.not_mem_nil, or_false, or_true, Nat.reduceEqDiff, Nat.succ_ne_self, fxA, fwA, fyA, and_true, true_and, imp_self, true_imp_iff, false_imp_iff, implies_true, fzA, fzW, cat]
      clear cat e0 e1 e2 e3
      refine w_forA L syD rfl (fun l st => ∃ x2 x3 x4 x5, st = ([.no, .v (.hnd 0), x2, x3, x4, x5, .no], z)) ⟨_, _, _, _, rfl⟩ ?_ ?_
      · rintro l s r st el ⟨x2, x3, x4, x5, rfl⟩
        have hs := hv s (by rw [el]; simp)
        have bt := valid_bT hs
        obtain ⟨so, sb, sn⟩ := valid_ord hs
        have sb' : blkA [.tup (s.items.map gD), .tup (s.groups.map grD)] ≤ 300 := by simpa only [syD, blk] using sb
        obtain ⟨kept, rk⟩ : ∃ kept, reprXD [syD s] = some (.str kept, false) := by
          unfold ord at so
          exact repr_tup so (by decide) (by decide) (by omega)
        have tl := textT_len bt
        have tl' : (textT s).cps.size ≤ 20000 := tl
        have ao := str_ord (asci_text s)
        have s1 := same_refl 5 (B := 10 ^ 12) (d := .lst [.str (textT s), syD s]) (t := z) (ord_lst (ordA_cons (ao _ _) (ordA_cons so ordA_nil))) (by simp [noDct, noDctA, sn]) (by simp only [blk, blkA] at sb ⊢; omega) (j := 12) (by decide)
        simp only [fdA, List.map_cons, List.map_nil, List.length_cons, List.length_nil, List.cons_append, List.nil_append, List.replicate_succ, List.replicate_zero, Nat.zero_add, Nat.reduceAdd, Nat.reduceSub, Nat.sub_self, if_true, if_false, Bool.false_eq_true, Bool.not_true, Bool.not_false, reduceCtorEq, ite_true, ite_false, List.getElem?_cons_zero, List.getElem?_cons_succ, List.set_cons_zero, List.set_cons_succ, LEN, Nat.reduceLeDiff, Option.map_some, fvA, List.length_map, List.length_set, decide_true, decide_false, fhA, List.mem_cons, List.not_mem_nil, or_false, or_true, Nat.reduceEqDiff, Nat.succ_ne_self, fxA, fwA, fyA, and_true, true_and, imp_self, true_imp_iff, false_imp_iff, implies_true, fzA, fzW, rk, q_text_eq (t := z) bt, format_system_eq (t := z) bt, parse_system_eq (t := z) hs, FF_q_same, s1]
        exact ⟨_, _, _, _, rfl⟩
      · rintro st ⟨x2, x3, x4, x5, rfl⟩
        simp only [fdA, List.map_cons, List.map_nil, List.length_cons, List.length_nil, List.cons_append, List.nil_append, List.replicate_succ, List.replicate_zero, Nat.zero_add, Nat.reduceAdd, Nat.reduceSub, Nat.sub_self, if_true, if_false, Bool.false_eq_true, Bool.not_true, Bool.not_false, reduceCtorEq, ite_true, ite_false, List.getElem?_cons_zero, List.getElem?_cons_succ, List.set_cons_zero, List.set_cons_succ, LEN, Nat.reduceLeDiff, Option.map_some, fvA, List.length_map, List.length_set, decide_true, decide_false, fhA, List.mem_cons, List.not_mem_nil, or_false, or_true, Nat.reduceEqDiff, Nat.succ_ne_self, fxA, fwA, fyA, and_true, true_and, imp_self, true_imp_iff, false_imp_iff, implies_true, fzA, fzW]
  obtain ⟨o, s', e, rfl⟩ := key
  exact ⟨s', e⟩
end FD

namespace FD
open PySem PySem.Spec PyProof.Rows L2
set_option maxHeartbeats 0 in
theorem all_mk {P : Program} {w : World} {K : PySem.W.Frag} {h : Heap} {mg : Str → Option Value} {fa : Addr} (X : K.In h) (G : h.Ns mainGlobals mg) (hfa : mg "law" = some (.ref fa))
    {f0 : Addr} {od0 an0 : Option Addr} {sl0 : Array (Option Value)} {oc0 kV0 dc0 pm0 cd0 ct0 : Value}
    {f1 : Addr} {od1 an1 : Option Addr} {sl1 : Array (Option Value)} {oc1 kV1 dc1 pm1 cd1 ct1 : Value}
    {f2 : Addr} {od2 an2 : Option Addr} {sl2 : Array (Option Value)} {oc2 kV2 dc2 pm2 cd2 ct2 : Value}
    {f3 : Addr} {od3 an3 : Option Addr} {sl3 : Array (Option Value)} {oc3 kV3 dc3 pm3 cd3 ct3 : Value}
    {f4 : Addr} {od4 an4 : Option Addr} {sl4 : Array (Option Value)} {oc4 kV4 dc4 pm4 cd4 ct4 : Value}
    {f5 : Addr} {od5 an5 : Option Addr} {sl5 : Array (Option Value)} {oc5 kV5 dc5 pm5 cd5 ct5 : Value}
    {f6 : Addr} {od6 an6 : Option Addr} {sl6 : Array (Option Value)} {oc6 kV6 dc6 pm6 cd6 ct6 : Value}
    {f7 : Addr} {od7 an7 : Option Addr} {sl7 : Array (Option Value)} {oc7 kV7 dc7 pm7 cd7 ct7 : Value}
    {f8 : Addr} {od8 an8 : Option Addr} {sl8 : Array (Option Value)} {oc8 kV8 dc8 pm8 cd8 ct8 : Value}
    {f9 : Addr} {od9 an9 : Option Addr} {sl9 : Array (Option Value)} {oc9 kV9 dc9 pm9 cd9 ct9 : Value}
    {f10 : Addr} {od10 an10 : Option Addr} {sl10 : Array (Option Value)} {oc10 kV10 dc10 pm10 cd10 ct10 : Value}
    {f11 : Addr} {od11 an11 : Option Addr} {sl11 : Array (Option Value)} {oc11 kV11 dc11 pm11 cd11 ct11 : Value}
    {f12 : Addr} {od12 an12 : Option Addr} {sl12 : Array (Option Value)} {oc12 kV12 dc12 pm12 cd12 ct12 : Value}
    {f13 : Addr} {od13 an13 : Option Addr} {sl13 : Array (Option Value)} {oc13 kV13 dc13 pm13 cd13 ct13 : Value}
    {f14 : Addr} {od14 an14 : Option Addr} {sl14 : Array (Option Value)} {oc14 kV14 dc14 pm14 cd14 ct14 : Value}
    {f15 : Addr} {od15 an15 : Option Addr} {sl15 : Array (Option Value)} {oc15 kV15 dc15 pm15 cd15 ct15 : Value}
    {f16 : Addr} {od16 an16 : Option Addr} {sl16 : Array (Option Value)} {oc16 kV16 dc16 pm16 cd16 ct16 : Value}
    {f17 : Addr} {od17 an17 : Option Addr} {sl17 : Array (Option Value)} {oc17 kV17 dc17 pm17 cd17 ct17 : Value}
    {f18 : Addr} {od18 an18 : Option Addr} {sl18 : Array (Option Value)} {oc18 kV18 dc18 pm18 cd18 ct18 : Value}
    {f19 : Addr} {od19 an19 : Option Addr} {sl19 : Array (Option Value)} {oc19 kV19 dc19 pm19 cd19 ct19 : Value}
    {f20 : Addr} {od20 an20 : Option Addr} {sl20 : Array (Option Value)} {oc20 kV20 dc20 pm20 cd20 ct20 : Value}
    {f21 : Addr} {od21 an21 : Option Addr} {sl21 : Array (Option Value)} {oc21 kV21 dc21 pm21 cd21 ct21 : Value}
    {f22 : Addr} {od22 an22 : Option Addr} {sl22 : Array (Option Value)} {oc22 kV22 dc22 pm22 cd22 ct22 : Value}
    {f23 : Addr} {od23 an23 : Option Addr} {sl23 : Array (Option Value)} {oc23 kV23 dc23 pm23 cd23 ct23 : Value}
    {f24 : Addr} {od24 an24 : Option Addr} {sl24 : Array (Option Value)} {oc24 kV24 dc24 pm24 cd24 ct24 : Value}
    {f25 : Addr} {od25 an25 : Option Addr} {sl25 : Array (Option Value)} {oc25 kV25 dc25 pm25 cd25 ct25 : Value}
    {f26 : Addr} {od26 an26 : Option Addr} {sl26 : Array (Option Value)} {oc26 kV26 dc26 pm26 cd26 ct26 : Value}
    {f27 : Addr} {od27 an27 : Option Addr} {sl27 : Array (Option Value)} {oc27 kV27 dc27 pm27 cd27 ct27 : Value}
    {f28 : Addr} {od28 an28 : Option Addr} {sl28 : Array (Option Value)} {oc28 kV28 dc28 pm28 cd28 ct28 : Value}
    {f29 : Addr} {od29 an29 : Option Addr} {sl29 : Array (Option Value)} {oc29 kV29 dc29 pm29 cd29 ct29 : Value}
    {f30 : Addr} {od30 an30 : Option Addr} {sl30 : Array (Option Value)} {oc30 kV30 dc30 pm30 cd30 ct30 : Value}
    {f31 : Addr} {od31 an31 : Option Addr} {sl31 : Array (Option Value)} {oc31 kV31 dc31 pm31 cd31 ct31 : Value}
    (a0 : PySem.W.nsIn K mainGlobals "is_between" = some (some (.ref f0))) (l0 : K.lookup f0 = some ⟨oc0, od0, .func (PySem.W.fnOf "is_between" "is_between" (defArgs s_is_between) (defBody s_is_between) (defScope s_is_between) .none kV0 dc0 pm0 an0 cd0 ct0), sl0⟩) (c0 : PySem.W.codeIn K cd0 "is_between" = true) (k0 : PySem.W.keepIn K (.ref f0) = true)
    (a1 : PySem.W.nsIn K mainGlobals "is_tuple_of" = some (some (.ref f1))) (l1 : K.lookup f1 = some ⟨oc1, od1, .func (PySem.W.fnOf "is_tuple_of" "is_tuple_of" (defArgs s_is_tuple_of) (defBody s_is_tuple_of) (defScope s_is_tuple_of) .none kV1 dc1 pm1 an1 cd1 ct1), sl1⟩) (c1 : PySem.W.codeIn K cd1 "is_tuple_of" = true) (k1 : PySem.W.keepIn K (.ref f1) = true)
    (a2 : PySem.W.nsIn K mainGlobals "is_choice" = some (some (.ref f2))) (l2 : K.lookup f2 = some ⟨oc2, od2, .func (PySem.W.fnOf "is_choice" "is_choice" (defArgs s_is_choice) (defBody s_is_choice) (defScope s_is_choice) .none kV2 dc2 pm2 an2 cd2 ct2), sl2⟩) (c2 : PySem.W.codeIn K cd2 "is_choice" = true) (k2 : PySem.W.keepIn K (.ref f2) = true)
    (a3 : PySem.W.nsIn K mainGlobals "is_step" = some (some (.ref f3))) (l3 : K.lookup f3 = some ⟨oc3, od3, .func (PySem.W.fnOf "is_step" "is_step" (defArgs s_is_step) (defBody s_is_step) (defScope s_is_step) .none kV3 dc3 pm3 an3 cd3 ct3), sl3⟩) (c3 : PySem.W.codeIn K cd3 "is_step" = true) (k3 : PySem.W.keepIn K (.ref f3) = true)
    (a4 : PySem.W.nsIn K mainGlobals "is_gains" = some (some (.ref f4))) (l4 : K.lookup f4 = some ⟨oc4, od4, .func (PySem.W.fnOf "is_gains" "is_gains" (defArgs s_is_gains) (defBody s_is_gains) (defScope s_is_gains) .none kV4 dc4 pm4 an4 cd4 ct4), sl4⟩) (c4 : PySem.W.codeIn K cd4 "is_gains" = true) (k4 : PySem.W.keepIn K (.ref f4) = true)
    (a5 : PySem.W.nsIn K mainGlobals "capacity_of_gains" = some (some (.ref f5))) (l5 : K.lookup f5 = some ⟨oc5, od5, .func (PySem.W.fnOf "capacity_of_gains" "capacity_of_gains" (defArgs s_capacity_of_gains) (defBody s_capacity_of_gains) (defScope s_capacity_of_gains) .none kV5 dc5 pm5 an5 cd5 ct5), sl5⟩) (c5 : PySem.W.codeIn K cd5 "capacity_of_gains" = true) (k5 : PySem.W.keepIn K (.ref f5) = true)
    (a6 : PySem.W.nsIn K mainGlobals "are_limits" = some (some (.ref f6))) (l6 : K.lookup f6 = some ⟨oc6, od6, .func (PySem.W.fnOf "are_limits" "are_limits" (defArgs s_are_limits) (defBody s_are_limits) (defScope s_are_limits) .none kV6 dc6 pm6 an6 cd6 ct6), sl6⟩) (c6 : PySem.W.codeIn K cd6 "are_limits" = true) (k6 : PySem.W.keepIn K (.ref f6) = true)
    (a7 : PySem.W.nsIn K mainGlobals "is_group" = some (some (.ref f7))) (l7 : K.lookup f7 = some ⟨oc7, od7, .func (PySem.W.fnOf "is_group" "is_group" (defArgs s_is_group) (defBody s_is_group) (defScope s_is_group) .none kV7 dc7 pm7 an7 cd7 ct7), sl7⟩) (c7 : PySem.W.codeIn K cd7 "is_group" = true) (k7 : PySem.W.keepIn K (.ref f7) = true)
    (a8 : PySem.W.nsIn K mainGlobals "are_compatible" = some (some (.ref f8))) (l8 : K.lookup f8 = some ⟨oc8, od8, .func (PySem.W.fnOf "are_compatible" "are_compatible" (defArgs s_are_compatible) (defBody s_are_compatible) (defScope s_are_compatible) .none kV8 dc8 pm8 an8 cd8 ct8), sl8⟩) (c8 : PySem.W.codeIn K cd8 "are_compatible" = true) (k8 : PySem.W.keepIn K (.ref f8) = true)
    (a9 : PySem.W.nsIn K mainGlobals "may_join" = some (some (.ref f9))) (l9 : K.lookup f9 = some ⟨oc9, od9, .func (PySem.W.fnOf "may_join" "may_join" (defArgs s_may_join) (defBody s_may_join) (defScope s_may_join) .none kV9 dc9 pm9 an9 cd9 ct9), sl9⟩) (c9 : PySem.W.codeIn K cd9 "may_join" = true) (k9 : PySem.W.keepIn K (.ref f9) = true)
    (a10 : PySem.W.nsIn K mainGlobals "spaced" = some (some (.ref f10))) (l10 : K.lookup f10 = some ⟨oc10, od10, .func (PySem.W.fnOf "spaced" "spaced" (defArgs s_spaced) (defBody s_spaced) (defScope s_spaced) .none kV10 dc10 pm10 an10 cd10 ct10), sl10⟩) (c10 : PySem.W.codeIn K cd10 "spaced" = true) (k10 : PySem.W.keepIn K (.ref f10) = true)
    (a11 : PySem.W.nsIn K mainGlobals "item_line" = some (some (.ref f11))) (l11 : K.lookup f11 = some ⟨oc11, od11, .func (PySem.W.fnOf "item_line" "item_line" (defArgs s_item_line) (defBody s_item_line) (defScope s_item_line) .none kV11 dc11 pm11 an11 cd11 ct11), sl11⟩) (c11 : PySem.W.codeIn K cd11 "item_line" = true) (k11 : PySem.W.keepIn K (.ref f11) = true)
    (a12 : PySem.W.nsIn K mainGlobals "group_line" = some (some (.ref f12))) (l12 : K.lookup f12 = some ⟨oc12, od12, .func (PySem.W.fnOf "group_line" "group_line" (defArgs s_group_line) (defBody s_group_line) (defScope s_group_line) .none kV12 dc12 pm12 an12 cd12 ct12), sl12⟩) (c12 : PySem.W.codeIn K cd12 "group_line" = true) (k12 : PySem.W.keepIn K (.ref f12) = true)
    (a13 : PySem.W.nsIn K mainGlobals "format_system" = some (some (.ref f13))) (l13 : K.lookup f13 = some ⟨oc13, od13, .func (PySem.W.fnOf "format_system" "format_system" (defArgs s_format_system) (defBody s_format_system) (defScope s_format_system) .none kV13 dc13 pm13 an13 cd13 ct13), sl13⟩) (c13 : PySem.W.codeIn K cd13 "format_system" = true) (k13 : PySem.W.keepIn K (.ref f13) = true)
    (a14 : PySem.W.nsIn K mainGlobals "number_in" = some (some (.ref f14))) (l14 : K.lookup f14 = some ⟨oc14, od14, .func (PySem.W.fnOf "number_in" "number_in" (defArgs s_number_in) (defBody s_number_in) (defScope s_number_in) .none kV14 dc14 pm14 an14 cd14 ct14), sl14⟩) (c14 : PySem.W.codeIn K cd14 "number_in" = true) (k14 : PySem.W.keepIn K (.ref f14) = true)
    (a15 : PySem.W.nsIn K mainGlobals "signed_in" = some (some (.ref f15))) (l15 : K.lookup f15 = some ⟨oc15, od15, .func (PySem.W.fnOf "signed_in" "signed_in" (defArgs s_signed_in) (defBody s_signed_in) (defScope s_signed_in) .none kV15 dc15 pm15 an15 cd15 ct15), sl15⟩) (c15 : PySem.W.codeIn K cd15 "signed_in" = true) (k15 : PySem.W.keepIn K (.ref f15) = true)
    (a16 : PySem.W.nsIn K mainGlobals "numbers_in" = some (some (.ref f16))) (l16 : K.lookup f16 = some ⟨oc16, od16, .func (PySem.W.fnOf "numbers_in" "numbers_in" (defArgs s_numbers_in) (defBody s_numbers_in) (defScope s_numbers_in) .none kV16 dc16 pm16 an16 cd16 ct16), sl16⟩) (c16 : PySem.W.codeIn K cd16 "numbers_in" = true) (k16 : PySem.W.keepIn K (.ref f16) = true)
    (a17 : PySem.W.nsIn K mainGlobals "step_in" = some (some (.ref f17))) (l17 : K.lookup f17 = some ⟨oc17, od17, .func (PySem.W.fnOf "step_in" "step_in" (defArgs s_step_in) (defBody s_step_in) (defScope s_step_in) .none kV17 dc17 pm17 an17 cd17 ct17), sl17⟩) (c17 : PySem.W.codeIn K cd17 "step_in" = true) (k17 : PySem.W.keepIn K (.ref f17) = true)
    (a18 : PySem.W.nsIn K mainGlobals "steps_in" = some (some (.ref f18))) (l18 : K.lookup f18 = some ⟨oc18, od18, .func (PySem.W.fnOf "steps_in" "steps_in" (defArgs s_steps_in) (defBody s_steps_in) (defScope s_steps_in) .none kV18 dc18 pm18 an18 cd18 ct18), sl18⟩) (c18 : PySem.W.codeIn K cd18 "steps_in" = true) (k18 : PySem.W.keepIn K (.ref f18) = true)
    (a19 : PySem.W.nsIn K mainGlobals "group_in" = some (some (.ref f19))) (l19 : K.lookup f19 = some ⟨oc19, od19, .func (PySem.W.fnOf "group_in" "group_in" (defArgs s_group_in) (defBody s_group_in) (defScope s_group_in) .none kV19 dc19 pm19 an19 cd19 ct19), sl19⟩) (c19 : PySem.W.codeIn K cd19 "group_in" = true) (k19 : PySem.W.keepIn K (.ref f19) = true)
    (a20 : PySem.W.nsIn K mainGlobals "with_line" = some (some (.ref f20))) (l20 : K.lookup f20 = some ⟨oc20, od20, .func (PySem.W.fnOf "with_line" "with_line" (defArgs s_with_line) (defBody s_with_line) (defScope s_with_line) .none kV20 dc20 pm20 an20 cd20 ct20), sl20⟩) (c20 : PySem.W.codeIn K cd20 "with_line" = true) (k20 : PySem.W.keepIn K (.ref f20) = true)
    (a21 : PySem.W.nsIn K mainGlobals "parse_system" = some (some (.ref f21))) (l21 : K.lookup f21 = some ⟨oc21, od21, .func (PySem.W.fnOf "parse_system" "parse_system" (defArgs s_parse_system) (defBody s_parse_system) (defScope s_parse_system) .none kV21 dc21 pm21 an21 cd21 ct21), sl21⟩) (c21 : PySem.W.codeIn K cd21 "parse_system" = true) (k21 : PySem.W.keepIn K (.ref f21) = true)
    (a22 : PySem.W.nsIn K mainGlobals "_law_deck" = some (some (.ref f22))) (l22 : K.lookup f22 = some ⟨oc22, od22, .func (PySem.W.fnOf "_law_deck" "_law_deck" (defArgs s_q_deck) (defBody s_q_deck) (defScope s_q_deck) .none kV22 dc22 pm22 an22 cd22 ct22), sl22⟩) (c22 : PySem.W.codeIn K cd22 "_law_deck" = true) (k22 : PySem.W.keepIn K (.ref f22) = true)
    (a23 : PySem.W.nsIn K mainGlobals "_law_next" = some (some (.ref f23))) (l23 : K.lookup f23 = some ⟨oc23, od23, .func (PySem.W.fnOf "_law_next" "_law_next" (defArgs s_q_next) (defBody s_q_next) (defScope s_q_next) .none kV23 dc23 pm23 an23 cd23 ct23), sl23⟩) (c23 : PySem.W.codeIn K cd23 "_law_next" = true) (k23 : PySem.W.keepIn K (.ref f23) = true)
    (a24 : PySem.W.nsIn K mainGlobals "_law_same" = some (some (.ref f24))) (l24 : K.lookup f24 = some ⟨oc24, od24, .func (PySem.W.fnOf "_law_same" "_law_same" (defArgs s_q_same) (defBody s_q_same) (defScope s_q_same) .none kV24 dc24 pm24 an24 cd24 ct24), sl24⟩) (c24 : PySem.W.codeIn K cd24 "_law_same" = true) (k24 : PySem.W.keepIn K (.ref f24) = true)
    (a25 : PySem.W.nsIn K mainGlobals "_law_shuffled" = some (some (.ref f25))) (l25 : K.lookup f25 = some ⟨oc25, od25, .func (PySem.W.fnOf "_law_shuffled" "_law_shuffled" (defArgs s_q_shuffled) (defBody s_q_shuffled) (defScope s_q_shuffled) .none kV25 dc25 pm25 an25 cd25 ct25), sl25⟩) (c25 : PySem.W.codeIn K cd25 "_law_shuffled" = true) (k25 : PySem.W.keepIn K (.ref f25) = true)
    (a26 : PySem.W.nsIn K mainGlobals "_law_nested" = some (some (.ref f26))) (l26 : K.lookup f26 = some ⟨oc26, od26, .func (PySem.W.fnOf "_law_nested" "_law_nested" (defArgs s_q_nested) (defBody s_q_nested) (defScope s_q_nested) .none kV26 dc26 pm26 an26 cd26 ct26), sl26⟩) (c26 : PySem.W.codeIn K cd26 "_law_nested" = true) (k26 : PySem.W.keepIn K (.ref f26) = true)
    (a27 : PySem.W.nsIn K mainGlobals "_law_wide_gains" = some (some (.ref f27))) (l27 : K.lookup f27 = some ⟨oc27, od27, .func (PySem.W.fnOf "_law_wide_gains" "_law_wide_gains" (defArgs s_q_wide_gains) (defBody s_q_wide_gains) (defScope s_q_wide_gains) .none kV27 dc27 pm27 an27 cd27 ct27), sl27⟩) (c27 : PySem.W.codeIn K cd27 "_law_wide_gains" = true) (k27 : PySem.W.keepIn K (.ref f27) = true)
    (a28 : PySem.W.nsIn K mainGlobals "_law_wide_system" = some (some (.ref f28))) (l28 : K.lookup f28 = some ⟨oc28, od28, .func (PySem.W.fnOf "_law_wide_system" "_law_wide_system" (defArgs s_q_wide_system) (defBody s_q_wide_system) (defScope s_q_wide_system) .none kV28 dc28 pm28 an28 cd28 ct28), sl28⟩) (c28 : PySem.W.codeIn K cd28 "_law_wide_system" = true) (k28 : PySem.W.keepIn K (.ref f28) = true)
    (a29 : PySem.W.nsIn K mainGlobals "_law_item_line" = some (some (.ref f29))) (l29 : K.lookup f29 = some ⟨oc29, od29, .func (PySem.W.fnOf "_law_item_line" "_law_item_line" (defArgs s_q_item_line) (defBody s_q_item_line) (defScope s_q_item_line) .none kV29 dc29 pm29 an29 cd29 ct29), sl29⟩) (c29 : PySem.W.codeIn K cd29 "_law_item_line" = true) (k29 : PySem.W.keepIn K (.ref f29) = true)
    (a30 : PySem.W.nsIn K mainGlobals "_law_text" = some (some (.ref f30))) (l30 : K.lookup f30 = some ⟨oc30, od30, .func (PySem.W.fnOf "_law_text" "_law_text" (defArgs s_q_text) (defBody s_q_text) (defScope s_q_text) .none kV30 dc30 pm30 an30 cd30 ct30), sl30⟩) (c30 : PySem.W.codeIn K cd30 "_law_text" = true) (k30 : PySem.W.keepIn K (.ref f30) = true)
    (a31 : PySem.W.nsIn K mainGlobals "law" = some (some (.ref f31))) (l31 : K.lookup f31 = some ⟨oc31, od31, .func (PySem.W.fnOf "law" "law" (defArgs s_law) (defBody s_law) (defScope s_law) .none kV31 dc31 pm31 an31 cd31 ct31), sl31⟩) (c31 : PySem.W.codeIn K cd31 "law" = true) (k31 : PySem.W.keepIn K (.ref f31) = true)
    (z0 : PySem.W.nsIn K mainGlobals "sum" = some none)
    (z1 : PySem.W.nsIn K mainGlobals "len" = some none)
    (z2 : PySem.W.nsIn K mainGlobals "all" = some none)
    (z3 : PySem.W.nsIn K mainGlobals "int" = some none)
    (z4 : PySem.W.nsIn K mainGlobals "enumerate" = some none)
    (z5 : PySem.W.nsIn K mainGlobals "isinstance" = some none)
    (z6 : PySem.W.nsIn K mainGlobals "dict" = some none)
    (z7 : PySem.W.nsIn K mainGlobals "str" = some none)
    (z8 : PySem.W.nsIn K mainGlobals "range" = some none)
    (z9 : PySem.W.nsIn K mainGlobals "tuple" = some none)
    (z10 : PySem.W.nsIn K mainGlobals "bool" = some none)
    (z11 : PySem.W.nsIn K mainGlobals "abs" = some none)
    (z12 : PySem.W.nsIn K mainGlobals "list" = some none)
    (z13 : PySem.W.nsIn K mainGlobals "sorted" = some none)
    (z14 : PySem.W.nsIn K mainGlobals "set" = some none)
    (z15 : PySem.W.nsIn K mainGlobals "min" = some none)
    (z16 : PySem.W.nsIn K mainGlobals "repr" = some none)
    (z17 : PySem.W.nsIn K mainGlobals "zip" = some none)
    {t_MAX_ITEMS : Tok} (y_MAX_ITEMS : PySem.W.nsIn K mainGlobals "MAX_ITEMS" = some (some (.int (6) t_MAX_ITEMS)))
    {t_MAX_STEPS : Tok} (y_MAX_STEPS : PySem.W.nsIn K mainGlobals "MAX_STEPS" = some (some (.int (5) t_MAX_STEPS)))
    {t_MAX_GROUPS : Tok} (y_MAX_GROUPS : PySem.W.nsIn K mainGlobals "MAX_GROUPS" = some (some (.int (8) t_MAX_GROUPS)))
    {t_LIMIT : Tok} (y_LIMIT : PySem.W.nsIn K mainGlobals "LIMIT" = some (some (.int (1000000000000) t_LIMIT)))
    {t_MAX_GAIN : Tok} (y_MAX_GAIN : PySem.W.nsIn K mainGlobals "MAX_GAIN" = some (some (.int (1000000) t_MAX_GAIN)))
    {t_MAX_DIGITS : Tok} (y_MAX_DIGITS : PySem.W.nsIn K mainGlobals "MAX_DIGITS" = some (some (.int (13) t_MAX_DIGITS)))
    {Q0 : Addr}
    {C0 : Addr}
    {IC0 : Addr} {od_C0 an_C0 : Option Addr} {sl_C0 : Array (Option Value)} {oc_C0 dc_C0 pm_C0 cd_C0 ct_C0 kV_C0 : Value}
    {NC0 : Addr} {nmC0 qC0 : Str} {bsC0 bmC0 : List Value} {snC0 : List Str} {sbC0 : List Value} {abC0 : Bool} {coC0 : Option Bool} {ddC0 : Option Addr} {uC0 vC0 wC0 xC0 yC0 : Option Value}
    (sp1 : PySem.W.specialIn K (.builtin "object.__class__") "__get__" = some (some (.builtin "getset_descriptor.__get__")))
    (sp2 : PySem.W.takesIn K (.builtin "object.__class__") = some true)
    (eAQ0 : PySem.W.nsIn K mainGlobals "CapError" = some (some (.ref Q0)))
    (eKQ0 : PySem.W.keepIn K (.ref Q0) = true)
    (eXQ0 : PySem.W.subIn K (.ref Q0) (.type "BaseException") = some true)
    (eTQ0 : PySem.W.typeIn K (.ref Q0) = some (.type "type"))
    (eGQ0 : PySem.W.findIn K (.ref Q0) "__getattribute__" = some (some (.builtin "BaseException.__getattribute__")))
    (eHQ0 : PySem.W.findIn K (.ref Q0) "__getattr__" = some none)
    (eDQ0 : PySem.W.hasDictIn K Q0 = true)
    (ePQ0 : PySem.W.findIn K (.ref Q0) "__class__" = some (some (.builtin "object.__class__")))
    (eOQ0 : PySem.W.mroIn K Q0 (.type "object") = some true)
    (eEQ0 : PySem.W.excIn K Q0 [.type "ValueError", .type "Exception", .type "BaseException", .type "object"] "ValueError.__new__" = true)
    (eAC0 : PySem.W.nsIn K mainGlobals "BadText" = some (some (.ref C0)))
    (eKC0 : PySem.W.keepIn K (.ref C0) = true)
    (eXC0 : PySem.W.subIn K (.ref C0) (.type "BaseException") = some true)
    (eTC0 : PySem.W.typeIn K (.ref C0) = some (.type "type"))
    (eGC0 : PySem.W.findIn K (.ref C0) "__getattribute__" = some (some (.builtin "BaseException.__getattribute__")))
    (eHC0 : PySem.W.findIn K (.ref C0) "__getattr__" = some none)
    (eDC0 : PySem.W.hasDictIn K C0 = true)
    (ePC0 : PySem.W.findIn K (.ref C0) "__class__" = some (some (.builtin "object.__class__")))
    (eOC0 : PySem.W.mroIn K C0 (.type "object") = some true)
    (eIC0 : PySem.W.findIn K (.ref C0) "__init__" = some (some (.ref IC0)))
    (eMC0 : K.lookup IC0 = some ⟨oc_C0, od_C0, .func (PySem.W.fnOf "__init__" "BadText.__init__" (defArgs sI_BadText) (defBody sI_BadText) (defScope sI_BadText) .none kV_C0 dc_C0 pm_C0 an_C0 cd_C0 ct_C0), sl_C0⟩)
    (eCC0 : PySem.W.codeIn K cd_C0 "BadText.__init__" = true)
    (eJC0 : PySem.W.keepIn K (.ref IC0) = true)
    (eSC0 : PySem.W.findIn K (.ref C0) "__setattr__" = some (some (.builtin "object.__setattr__")))
    (eNC0_line : PySem.W.findIn K (.ref C0) "line" = some none)
    (eLC0 : K.lookup C0 = some (excClassObj nmC0 qC0 C0 NC0 bsC0 bmC0 true snC0 sbC0 abC0 coC0 ddC0 uC0 vC0 wC0 xC0 yC0 "ValueError.__new__"))
    (eRC0 : PySem.HandSPX.refsVE bmC0 = true)
    (eYC0 : PySem.W.typeIn K (.ref IC0) = some (.type "function"))
    : ∃ fd : FuncData, (∀ (s : Shared) (v : Value), BindsTo s fd ⟨[v], []⟩ [("_law_script", v)]) ∧ ∀ base : Heap, K.In base → base.Ns mainGlobals mg → FnG P w K mg base (L2.CX P w) 13 fa fd p_law (sp_law K) := by
  have e := hfa.symm.trans (PySem.W.mg_of X G a31)
  cases e
  have F0 := fun_mk (st := s_is_between) l0 c0 k0
  have b0 := F0.binds (ps := p_is_between) fun _ _ _ _ _ _ us hl => match us, hl with | [_, _, _], _ => rfl
  have F1 := fun_mk (st := s_is_tuple_of) l1 c1 k1
  have b1 := F1.binds (ps := p_is_tuple_of) fun _ _ _ _ _ _ us hl => match us, hl with | [_, _], _ => rfl
  have F2 := fun_mk (st := s_is_choice) l2 c2 k2
  have b2 := F2.binds (ps := p_is_choice) fun _ _ _ _ _ _ us hl => match us, hl with | [_, _], _ => rfl
  have F3 := fun_mk (st := s_is_step) l3 c3 k3
  have b3 := F3.binds (ps := p_is_step) fun _ _ _ _ _ _ us hl => match us, hl with | [_], _ => rfl
  have F4 := fun_mk (st := s_is_gains) l4 c4 k4
  have b4 := F4.binds (ps := p_is_gains) fun _ _ _ _ _ _ us hl => match us, hl with | [_], _ => rfl
  have F5 := fun_mk (st := s_capacity_of_gains) l5 c5 k5
  have b5 := F5.binds (ps := p_capacity_of_gains) fun _ _ _ _ _ _ us hl => match us, hl with | [_], _ => rfl
  have F6 := fun_mk (st := s_are_limits) l6 c6 k6
  have b6 := F6.binds (ps := p_are_limits) fun _ _ _ _ _ _ us hl => match us, hl with | [_, _], _ => rfl
  have F7 := fun_mk (st := s_is_group) l7 c7 k7
  have b7 := F7.binds (ps := p_is_group) fun _ _ _ _ _ _ us hl => match us, hl with | [_, _], _ => rfl
  have F8 := fun_mk (st := s_are_compatible) l8 c8 k8
  have b8 := F8.binds (ps := p_are_compatible) fun _ _ _ _ _ _ us hl => match us, hl with | [_, _], _ => rfl
  have F9 := fun_mk (st := s_may_join) l9 c9 k9
  have b9 := F9.binds (ps := p_may_join) fun _ _ _ _ _ _ us hl => match us, hl with | [_, _, _], _ => rfl
  have F10 := fun_mk (st := s_spaced) l10 c10 k10
  have b10 := F10.binds (ps := p_spaced) fun _ _ _ _ _ _ us hl => match us, hl with | [_], _ => rfl
  have F11 := fun_mk (st := s_item_line) l11 c11 k11
  have b11 := F11.binds (ps := p_item_line) fun _ _ _ _ _ _ us hl => match us, hl with | [_], _ => rfl
  have F12 := fun_mk (st := s_group_line) l12 c12 k12
  have b12 := F12.binds (ps := p_group_line) fun _ _ _ _ _ _ us hl => match us, hl with | [_], _ => rfl
  have F13 := fun_mk (st := s_format_system) l13 c13 k13
  have b13 := F13.binds (ps := p_format_system) fun _ _ _ _ _ _ us hl => match us, hl with | [_], _ => rfl
  have F14 := fun_mk (st := s_number_in) l14 c14 k14
  have b14 := F14.binds (ps := p_number_in) fun _ _ _ _ _ _ us hl => match us, hl with | [_], _ => rfl
  have F15 := fun_mk (st := s_signed_in) l15 c15 k15
  have b15 := F15.binds (ps := p_signed_in) fun _ _ _ _ _ _ us hl => match us, hl with | [_], _ => rfl
  have F16 := fun_mk (st := s_numbers_in) l16 c16 k16
  have b16 := F16.binds (ps := p_numbers_in) fun _ _ _ _ _ _ us hl => match us, hl with | [_], _ => rfl
  have F17 := fun_mk (st := s_step_in) l17 c17 k17
  have b17 := F17.binds (ps := p_step_in) fun _ _ _ _ _ _ us hl => match us, hl with | [_], _ => rfl
  have F18 := fun_mk (st := s_steps_in) l18 c18 k18
  have b18 := F18.binds (ps := p_steps_in) fun _ _ _ _ _ _ us hl => match us, hl with | [_], _ => rfl
  have F19 := fun_mk (st := s_group_in) l19 c19 k19
  have b19 := F19.binds (ps := p_group_in) fun _ _ _ _ _ _ us hl => match us, hl with | [_], _ => rfl
  have F20 := fun_mk (st := s_with_line) l20 c20 k20
  have b20 := F20.binds (ps := p_with_line) fun _ _ _ _ _ _ us hl => match us, hl with | [_, _], _ => rfl
  have F21 := fun_mk (st := s_parse_system) l21 c21 k21
  have b21 := F21.binds (ps := p_parse_system) fun _ _ _ _ _ _ us hl => match us, hl with | [_], _ => rfl
  have F22 := fun_mk (st := s_q_deck) l22 c22 k22
  have b22 := F22.binds (ps := p_q_deck) fun _ _ _ _ _ _ us hl => match us, hl with | [_], _ => rfl
  have F23 := fun_mk (st := s_q_next) l23 c23 k23
  have b23 := F23.binds (ps := p_q_next) fun _ _ _ _ _ _ us hl => match us, hl with | [_, _], _ => rfl
  have F24 := fun_mk (st := s_q_same) l24 c24 k24
  have b24 := F24.binds (ps := p_q_same) fun _ _ _ _ _ _ us hl => match us, hl with | [_, _], _ => rfl
  have F25 := fun_mk (st := s_q_shuffled) l25 c25 k25
  have b25 := F25.binds (ps := p_q_shuffled) fun _ _ _ _ _ _ us hl => match us, hl with | [_, _], _ => rfl
  have F26 := fun_mk (st := s_q_nested) l26 c26 k26
  have b26 := F26.binds (ps := p_q_nested) fun _ _ _ _ _ _ us hl => match us, hl with | [_, _], _ => rfl
  have F27 := fun_mk (st := s_q_wide_gains) l27 c27 k27
  have b27 := F27.binds (ps := p_q_wide_gains) fun _ _ _ _ _ _ us hl => match us, hl with | [_], _ => rfl
  have F28 := fun_mk (st := s_q_wide_system) l28 c28 k28
  have b28 := F28.binds (ps := p_q_wide_system) fun _ _ _ _ _ _ us hl => match us, hl with | [_], _ => rfl
  have F29 := fun_mk (st := s_q_item_line) l29 c29 k29
  have b29 := F29.binds (ps := p_q_item_line) fun _ _ _ _ _ _ us hl => match us, hl with | [_], _ => rfl
  have F30 := fun_mk (st := s_q_text) l30 c30 k30
  have b30 := F30.binds (ps := p_q_text) fun _ _ _ _ _ _ us hl => match us, hl with | [_], _ => rfl
  have F31 := fun_mk (st := s_law) l31 c31 k31
  have b31 := F31.binds (ps := p_law) fun _ _ _ _ _ _ us hl => match us, hl with | [_], _ => rfl
  let YQ0 : PlainC K mg "CapError" := { C := Q0, g := PySem.W.mg_of X G eAQ0, ex := eEQ0, kC := eKQ0, ec := ⟨eGQ0, eHQ0, eXQ0, eDQ0, ePQ0, sp1, sp2, eOQ0⟩, ty := eTQ0 }
  have FIC0 := fun_mk (st := sI_BadText) eMC0 eCC0 eJC0
  have bIC0 := FIC0.binds (ps := ["self", "line"]) fun _ _ _ _ _ _ us hl => match us, hl with | [_, _], _ => rfl
  let YC0 : ErrC K mg "BadText" "BadText.__init__" "line" sI_BadText := { C := C0, fI := IC0, fd := _, g := PySem.W.mg_of X G eAC0, ox := ⟨⟨nmC0, qC0, NC0, bsC0, bmC0, snC0, sbC0, abC0, coC0, ddC0, uC0, vC0, wC0, xC0, yC0, eLC0, eRC0⟩, eSC0, eXC0, eTC0, eKC0⟩, iC := eIC0, tI := eYC0, F := FIC0, b := bIC0, no := eNC0_line, xf := ⟨eGC0, eHC0, eXC0, eDC0⟩, ec := ⟨eGC0, eHC0, eXC0, eDC0, ePC0, sp1, sp2, eOC0⟩ }
  let T : Txt K mg := {
    f_is_between := ⟨f0, _, F0, b0, PySem.W.mg_of X G a0⟩,
    f_is_tuple_of := ⟨f1, _, F1, b1, PySem.W.mg_of X G a1⟩,
    f_is_choice := ⟨f2, _, F2, b2, PySem.W.mg_of X G a2⟩,
    f_is_step := ⟨f3, _, F3, b3, PySem.W.mg_of X G a3⟩,
    f_is_gains := ⟨f4, _, F4, b4, PySem.W.mg_of X G a4⟩,
    f_capacity_of_gains := ⟨f5, _, F5, b5, PySem.W.mg_of X G a5⟩,
    f_are_limits := ⟨f6, _, F6, b6, PySem.W.mg_of X G a6⟩,
    f_is_group := ⟨f7, _, F7, b7, PySem.W.mg_of X G a7⟩,
    f_are_compatible := ⟨f8, _, F8, b8, PySem.W.mg_of X G a8⟩,
    f_may_join := ⟨f9, _, F9, b9, PySem.W.mg_of X G a9⟩,
    f_spaced := ⟨f10, _, F10, b10, PySem.W.mg_of X G a10⟩,
    f_item_line := ⟨f11, _, F11, b11, PySem.W.mg_of X G a11⟩,
    f_group_line := ⟨f12, _, F12, b12, PySem.W.mg_of X G a12⟩,
    f_format_system := ⟨f13, _, F13, b13, PySem.W.mg_of X G a13⟩,
    f_number_in := ⟨f14, _, F14, b14, PySem.W.mg_of X G a14⟩,
    f_signed_in := ⟨f15, _, F15, b15, PySem.W.mg_of X G a15⟩,
    f_numbers_in := ⟨f16, _, F16, b16, PySem.W.mg_of X G a16⟩,
    f_step_in := ⟨f17, _, F17, b17, PySem.W.mg_of X G a17⟩,
    f_steps_in := ⟨f18, _, F18, b18, PySem.W.mg_of X G a18⟩,
    f_group_in := ⟨f19, _, F19, b19, PySem.W.mg_of X G a19⟩,
    f_with_line := ⟨f20, _, F20, b20, PySem.W.mg_of X G a20⟩,
    f_parse_system := ⟨f21, _, F21, b21, PySem.W.mg_of X G a21⟩,
    f_q_deck := ⟨f22, _, F22, b22, PySem.W.mg_of X G a22⟩,
    f_q_next := ⟨f23, _, F23, b23, PySem.W.mg_of X G a23⟩,
    f_q_same := ⟨f24, _, F24, b24, PySem.W.mg_of X G a24⟩,
    f_q_shuffled := ⟨f25, _, F25, b25, PySem.W.mg_of X G a25⟩,
    f_q_nested := ⟨f26, _, F26, b26, PySem.W.mg_of X G a26⟩,
    f_q_wide_gains := ⟨f27, _, F27, b27, PySem.W.mg_of X G a27⟩,
    f_q_wide_system := ⟨f28, _, F28, b28, PySem.W.mg_of X G a28⟩,
    f_q_item_line := ⟨f29, _, F29, b29, PySem.W.mg_of X G a29⟩,
    f_q_text := ⟨f30, _, F30, b30, PySem.W.mg_of X G a30⟩,
    f_law := ⟨fa, _, F31, b31, PySem.W.mg_of X G a31⟩,
    e_CapError := YQ0, e_BadText := YC0,
    m_sum := PySem.W.mg_none_of X G z0, m_len := PySem.W.mg_none_of X G z1, m_all := PySem.W.mg_none_of X G z2, m_int := PySem.W.mg_none_of X G z3, m_enumerate := PySem.W.mg_none_of X G z4, m_isinstance := PySem.W.mg_none_of X G z5, m_dict := PySem.W.mg_none_of X G z6, m_str := PySem.W.mg_none_of X G z7, m_range := PySem.W.mg_none_of X G z8, m_tuple := PySem.W.mg_none_of X G z9, m_bool := PySem.W.mg_none_of X G z10, m_abs := PySem.W.mg_none_of X G z11, m_list := PySem.W.mg_none_of X G z12, m_sorted := PySem.W.mg_none_of X G z13, m_set := PySem.W.mg_none_of X G z14, m_min := PySem.W.mg_none_of X G z15, m_repr := PySem.W.mg_none_of X G z16, m_zip := PySem.W.mg_none_of X G z17, t_MAX_ITEMS := t_MAX_ITEMS, g_MAX_ITEMS := PySem.W.mg_of X G y_MAX_ITEMS, t_MAX_STEPS := t_MAX_STEPS, g_MAX_STEPS := PySem.W.mg_of X G y_MAX_STEPS, t_MAX_GROUPS := t_MAX_GROUPS, g_MAX_GROUPS := PySem.W.mg_of X G y_MAX_GROUPS, t_LIMIT := t_LIMIT, g_LIMIT := PySem.W.mg_of X G y_LIMIT, t_MAX_GAIN := t_MAX_GAIN, g_MAX_GAIN := PySem.W.mg_of X G y_MAX_GAIN, t_MAX_DIGITS := t_MAX_DIGITS, g_MAX_DIGITS := PySem.W.mg_of X G y_MAX_DIGITS }
  let ca : Str → Addr := fun x => if x = "CapError" then Q0 else if x = "BadText" then C0 else (0 : Addr)
  have ca_0 : ca "CapError" = Q0 := if_pos rfl
  have ca_1 : ca "BadText" = C0 := (if_neg (by decide +kernel)).trans <| if_pos rfl
  have U : CaOk T ca := { one := trivial, a_CapError := ca_0, a_BadText := ca_1 }
  exact ⟨_, fun s v => .of_eq rfl, fun base _ _ => ok_law T ca U pure_law⟩
end FD
open PySem PySem.W PyProof.Rows
set_option maxHeartbeats 0 in
theorem PySem.Challenge.cw_groupcaps_k60_system_texts_holds : PySem.Challenge.rw_groupcaps_k60_system_texts.Holds := by
  w_on; o_law; k_head; (case hw => w_witness2)
  k_fill
  refine FD.walkG (l := PySem.Challenge.rw_groupcaps_k60_system_texts) (n := 63) (k := 13) (x := "_law_script") (CX := fun w => L2.CX (PySem.Challenge.rw_groupcaps_k60_system_texts).prog w) (sp := fun w => FD.sp_law _) rfl (by decide) rfl ⟨rfl, by decide, by decide⟩ (fun w h Y => PySem.W.kIn_of Y) ?F (fun _ _ a ns hl hS => ⟨a, ns, rfl, hS, hl, fun _ => rfl⟩) (fun _ _ _ _ _ h => FD.noCX _ _ _ _ h)
  case F =>
    intro w mg fa h KX G hmg
    refine' FD.all_mk KX G hmg ?a0 ?l0 ?c0 ?k0 ?a1 ?l1 ?c1 ?k1 ?a2 ?l2 ?c2 ?k2 ?a3 ?l3 ?c3 ?k3 ?a4 ?l4 ?c4 ?k4 ?a5 ?l5 ?c5 ?k5 ?a6 ?l6 ?c6 ?k6 ?a7 ?l7 ?c7 ?k7 ?a8 ?l8 ?c8 ?k8 ?a9 ?l9 ?c9 ?k9 ?a10 ?l10 ?c10 ?k10 ?a11 ?l11 ?c11 ?k11 ?a12 ?l12 ?c12 ?k12 ?a13 ?l13 ?c13 ?k13 ?a14 ?l14 ?c14 ?k14 ?a15 ?l15 ?c15 ?k15 ?a16 ?l16 ?c16 ?k16 ?a17 ?l17 ?c17 ?k17 ?a18 ?l18 ?c18 ?k18 ?a19 ?l19 ?c19 ?k19 ?a20 ?l20 ?c20 ?k20 ?a21 ?l21 ?c21 ?k21 ?a22 ?l22 ?c22 ?k22 ?a23 ?l23 ?c23 ?k23 ?a24 ?l24 ?c24 ?k24 ?a25 ?l25 ?c25 ?k25 ?a26 ?l26 ?c26 ?k26 ?a27 ?l27 ?c27 ?k27 ?a28 ?l28 ?c28 ?k28 ?a29 ?l29 ?c29 ?k29 ?a30 ?l30 ?c30 ?k30 ?a31 ?l31 ?c31 ?k31 ?z0 ?z1 ?z2 ?z3 ?z4 ?z5 ?z6 ?z7 ?z8 ?z9 ?z10 ?z11 ?z12 ?z13 ?z14 ?z15 ?z16 ?z17 ?y_MAX_ITEMS ?y_MAX_STEPS ?y_MAX_GROUPS ?y_LIMIT ?y_MAX_GAIN ?y_MAX_DIGITS ?sp1 ?sp2 ?eAQ0 ?eKQ0 ?eXQ0 ?eTQ0 ?eGQ0 ?eHQ0 ?eDQ0 ?ePQ0 ?eOQ0 ?eEQ0 ?eAC0 ?eKC0 ?eXC0 ?eTC0 ?eGC0 ?eHC0 ?eDC0 ?ePC0 ?eOC0 ?eIC0 ?eMC0 ?eCC0 ?eJC0 ?eSC0 ?eNC0_line ?eLC0 ?eRC0 ?eYC0
    (case a0 => k_is); (case l0 => k_is); (case c0 => k_is); (case k0 => k_is); (case a1 => k_is); (case l1 => k_is); (case c1 => k_is); (case k1 => k_is); (case a2 => k_is); (case l2 => k_is); (case c2 => k_is); (case k2 => k_is); (case a3 => k_is); (case l3 => k_is); (case c3 => k_is); (case k3 => k_is); (case a4 => k_is); (case l4 => k_is); (case c4 => k_is); (case k4 => k_is); (case a5 => k_is); (case l5 => k_is); (case c5 => k_is); (case k5 => k_is); (case a6 => k_is); (case l6 => k_is); (case c6 => k_is); (case k6 => k_is); (case a7 => k_is); (case l7 => k_is); (case c7 => k_is); (case k7 => k_is); (case a8 => k_is); (case l8 => k_is); (case c8 => k_is); (case k8 => k_is); (case a9 => k_is); (case l9 => k_is); (case c9 => k_is); (case k9 => k_is); (case a10 => k_is); (case l10 => k_is); (case c10 => k_is); (case k10 => k_is); (case a11 => k_is); (case l11 => k_is); (case c11 => k_is); (case k11 => k_is); (case a12 => k_is); (case l12 => k_is); (case c12 => k_is); (case k12 => k_is); (case a13 => k_is); (case l13 => k_is); (case c13 => k_is); (case k13 => k_is); (case a14 => k_is); (case l14 => k_is); (case c14 => k_is); (case k14 => k_is); (case a15 => k_is); (case l15 => k_is); (case c15 => k_is); (case k15 => k_is); (case a16 => k_is); (case l16 => k_is); (case c16 => k_is); (case k16 => k_is); (case a17 => k_is); (case l17 => k_is); (case c17 => k_is); (case k17 => k_is); (case a18 => k_is); (case l18 => k_is); (case c18 => k_is); (case k18 => k_is); (case a19 => k_is); (case l19 => k_is); (case c19 => k_is); (case k19 => k_is); (case a20 => k_is); (case l20 => k_is); (case c20 => k_is); (case k20 => k_is); (case a21 => k_is); (case l21 => k_is); (case c21 => k_is); (case k21 => k_is); (case a22 => k_is); (case l22 => k_is); (case c22 => k_is); (case k22 => k_is); (case a23 => k_is); (case l23 => k_is); (case c23 => k_is); (case k23 => k_is); (case a24 => k_is); (case l24 => k_is); (case c24 => k_is); (case k24 => k_is); (case a25 => k_is); (case l25 => k_is); (case c25 => k_is); (case k25 => k_is); (case a26 => k_is); (case l26 => k_is); (case c26 => k_is); (case k26 => k_is); (case a27 => k_is); (case l27 => k_is); (case c27 => k_is); (case k27 => k_is); (case a28 => k_is); (case l28 => k_is); (case c28 => k_is); (case k28 => k_is); (case a29 => k_is); (case l29 => k_is); (case c29 => k_is); (case k29 => k_is); (case a30 => k_is); (case l30 => k_is); (case c30 => k_is); (case k30 => k_is); (case a31 => k_is); (case l31 => k_is); (case c31 => k_is); (case k31 => k_is); (case z0 => k_is); (case z1 => k_is); (case z2 => k_is); (case z3 => k_is); (case z4 => k_is); (case z5 => k_is); (case z6 => k_is); (case z7 => k_is); (case z8 => k_is); (case z9 => k_is); (case z10 => k_is); (case z11 => k_is); (case z12 => k_is); (case z13 => k_is); (case z14 => k_is); (case z15 => k_is); (case z16 => k_is); (case z17 => k_is); (case y_MAX_ITEMS => k_is); (case y_MAX_STEPS => k_is); (case y_MAX_GROUPS => k_is); (case y_LIMIT => k_is); (case y_MAX_GAIN => k_is); (case y_MAX_DIGITS => k_is); (case sp1 => k_is); (case sp2 => k_is); (case eAQ0 => k_is); (case eKQ0 => k_is); (case eXQ0 => k_is); (case eTQ0 => k_is); (case eGQ0 => k_is); (case eHQ0 => k_is); (case eDQ0 => k_is); (case ePQ0 => k_is); (case eOQ0 => k_is); (case eEQ0 => k_exc); (case eAC0 => k_is); (case eKC0 => k_is); (case eXC0 => k_is); (case eTC0 => k_is); (case eGC0 => k_is); (case eHC0 => k_is); (case eDC0 => k_is); (case ePC0 => k_is); (case eOC0 => k_is); (case eIC0 => k_is); (case eMC0 => k_is); (case eCC0 => k_is); (case eJC0 => k_is); (case eSC0 => k_is); (case eNC0_line => k_is); (case eLC0 => k_is); (case eRC0 => decide +kernel); (case eYC0 => k_is)

